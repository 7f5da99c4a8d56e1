"""The interface: each name is there, with its arguments and defaults as they stand."""

import inspect
import unittest

from doubthall import masks, reasons, settled, standing, talks, texts, yields

SIGNATURES = {
    texts: {
        "read_row": "(line, row=0)",
        "read_book": "(text)",
        "shown_rule": "(names, rule)",
        "shown_book": "(names, book)",
    },
    masks: {
        "places": "(mask)",
        "mask_of": "(row)",
        "many": "(mask)",
        "inside": "(mask, other)",
        "shown_set": "(names, mask)",
    },
    yields: {
        "yielded": "(book, held)",
        "way_fault": "(book, held, word, steps)",
        "way": "(book, held, word)",
    },
    reasons: {
        "reasons": "(book, word)",
        "a_reason": "(book, within, word)",
    },
    standing: {
        "struck": "(book, held)",
        "at_peace": "(book, held)",
        "defended": "(book, held)",
        "stands": "(book, held)",
        "flaw": "(book, held)",
    },
    settled: {
        "settled": "(book)",
    },
    talks: {
        "reply": "(book, guess, striker)",
        "doubt": "(book, held)",
        "Talk": "(book, held)",
    },
    talks.Talk: {
        "doubted": "(self, guess, striker)",
        "replied": "(self, guess, striker)",
        "turn": "(self)",
        "now": "(self)",
        "waiting": "(self)",
        "winner": "(self)",
        "said": "(self)",
    },
}


class Interface(unittest.TestCase):
    def test_names_arguments_and_defaults(self):
        for owner, functions in SIGNATURES.items():
            for name, wanted in functions.items():
                with self.subTest(name):
                    self.assertEqual(str(inspect.signature(getattr(owner, name))), wanted)

    def test_a_talk_is_a_class(self):
        self.assertTrue(inspect.isclass(talks.Talk))

    def test_arguments_may_be_named(self):
        book = (2, (1,), ((1, (0,)),))
        self.assertEqual(texts.read_row(line="a", row=1), ("rule", "a", ()))
        self.assertEqual(texts.read_book(text="a"), (("a",), (1, (), ((0, ()),))))
        self.assertEqual(yields.way(book=book, held=1, word=1), (0,))
        self.assertIsNone(yields.way_fault(book=book, held=1, word=1, steps=(0,)))
        self.assertIs(masks.inside(mask=1, other=3), True)
        self.assertEqual(reasons.reasons(book=book, word=1), (1,))
        self.assertEqual(reasons.a_reason(book=book, within=1, word=1), 1)
        self.assertIs(standing.stands(book=book, held=1), False)
        self.assertEqual(settled.settled(book=book), (0, (None,)))
        self.assertIsNone(talks.reply(book=book, guess=0, striker=1))
        self.assertEqual(talks.doubt(book=book, held=1), (0, 1))
        talk = talks.Talk(book=book, held=1)
        talk.doubted(guess=0, striker=1)
        talk.replied(guess=0, striker=1)
        self.assertEqual(len(talk.said()), 2)


if __name__ == "__main__":
    unittest.main()
