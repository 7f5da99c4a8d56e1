"""The interface: each name is there, with its arguments and defaults as they stand."""

import inspect
import unittest

from doubthall import camps, desk, lots, masks, reasons, sayings, settled, standing, talks, texts, yields

SIGNATURES = {
    texts: {
        "read_row": "(line, row=0)",
        "read_book": "(text)",
        "shown_rule": "(names, rule)",
        "shown_book": "(names, book)",
    },
    masks: {
        "places": "(mask)",
        "mask_of": "(row)",
        "many": "(mask)",
        "inside": "(mask, other)",
        "shown_set": "(names, mask)",
    },
    yields: {
        "yielded": "(book, held)",
        "way_fault": "(book, held, word, steps)",
        "way": "(book, held, word)",
    },
    reasons: {
        "reasons": "(book, word)",
        "a_reason": "(book, within, word)",
    },
    standing: {
        "struck": "(book, held)",
        "at_peace": "(book, held)",
        "defended": "(book, held)",
        "stands": "(book, held)",
        "flaw": "(book, held)",
    },
    settled: {
        "settled": "(book)",
    },
    talks: {
        "reply": "(book, guess, striker)",
        "doubt": "(book, held)",
        "Talk": "(book, held)",
    },
    talks.Talk: {
        "doubted": "(self, guess, striker)",
        "replied": "(self, guess, striker)",
        "turn": "(self)",
        "now": "(self)",
        "waiting": "(self)",
        "winner": "(self)",
        "said": "(self)",
    },
    camps: {
        "camps": "(book, holding=0)",
        "full": "(book)",
    },
    lots: {
        "lot": "(book, word)",
    },
    lots.Lot: {
        "called": "(self)",
        "shown": "(self, names)",
    },
    sayings: {
        "sayings": "(book)",
        "strikes": "(book, one, other)",
        "labels": "(book)",
    },
    desk: {
        "Desk": "(text='')",
    },
    desk.Desk: {
        "ask": "(self, line)",
    },
}
# The classes beside the refusals, with the one base of each.
BASES = {
    talks.Talk: object,
    lots.Lot: object,
    lots.Settled: lots.Lot,
    lots.Sure: lots.Lot,
    lots.Maybe: lots.Lot,
    lots.Never: lots.Lot,
    desk.Desk: object,
}


class Interface(unittest.TestCase):
    def test_names_arguments_and_defaults(self):
        for owner, functions in SIGNATURES.items():
            for name, wanted in functions.items():
                with self.subTest(name):
                    self.assertEqual(str(inspect.signature(getattr(owner, name))), wanted)

    def test_classes_and_their_bases(self):
        for kind, base in BASES.items():
            with self.subTest(kind.__name__):
                self.assertEqual(kind.__bases__, (base,))

    def test_the_four_lots_have_the_methods_as_they_stand(self):
        for kind in (lots.Settled, lots.Sure, lots.Maybe, lots.Never):
            for name, wanted in SIGNATURES[lots.Lot].items():
                self.assertEqual(str(inspect.signature(getattr(kind, name))), wanted)

    def test_arguments_may_be_named(self):
        book = (2, (1,), ((1, (0,)),))
        self.assertEqual(texts.read_row(line="a", row=1), ("rule", "a", ()))
        self.assertEqual(texts.read_book(text="a"), (("a",), (1, (), ((0, ()),))))
        self.assertEqual(yields.way(book=book, held=1, word=1), (0,))
        self.assertIsNone(yields.way_fault(book=book, held=1, word=1, steps=(0,)))
        self.assertIs(masks.inside(mask=1, other=3), True)
        self.assertEqual(reasons.reasons(book=book, word=1), (1,))
        self.assertEqual(reasons.a_reason(book=book, within=1, word=1), 1)
        self.assertIs(standing.stands(book=book, held=1), False)
        self.assertEqual(settled.settled(book=book), (0, (None,)))
        self.assertIsNone(talks.reply(book=book, guess=0, striker=1))
        self.assertEqual(talks.doubt(book=book, held=1), (0, 1))
        talk = talks.Talk(book=book, held=1)
        talk.doubted(guess=0, striker=1)
        talk.replied(guess=0, striker=1)
        self.assertEqual(len(talk.said()), 2)
        self.assertEqual(camps.camps(book=book, holding=1), ())
        self.assertEqual(camps.full(book=book), ())
        self.assertEqual(lots.lot(book=book, word=1).shown(names=("a", "b")), ["never"])
        self.assertEqual(sayings.sayings(book=book), ((1, 0), (1, 1)))
        self.assertIs(sayings.strikes(book=book, one=(1, 1), other=(1, 0)), True)
        self.assertEqual(sayings.labels(book=book), ("left", "left"))
        self.assertEqual(desk.Desk(text="a").ask(line="book"), ["a"])


if __name__ == "__main__":
    unittest.main()
