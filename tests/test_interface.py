"""The interface: each name is there, with its arguments and defaults as they stand."""

import inspect
import unittest

from doubthall import masks, texts, yields

SIGNATURES = {
    texts: {
        "read_row": "(line, row=0)",
        "read_book": "(text)",
        "shown_rule": "(names, rule)",
        "shown_book": "(names, book)",
    },
    masks: {
        "places": "(mask)",
        "mask_of": "(row)",
        "many": "(mask)",
        "inside": "(mask, other)",
        "shown_set": "(names, mask)",
    },
    yields: {
        "yielded": "(book, held)",
        "way_fault": "(book, held, word, steps)",
        "way": "(book, held, word)",
    },
}


class Interface(unittest.TestCase):
    def test_names_arguments_and_defaults(self):
        for module, functions in SIGNATURES.items():
            for name, wanted in functions.items():
                with self.subTest(name):
                    self.assertEqual(str(inspect.signature(getattr(module, name))), wanted)

    def test_arguments_may_be_named(self):
        book = (2, (1,), ((1, (0,)),))
        self.assertEqual(texts.read_row(line="a", row=1), ("rule", "a", ()))
        self.assertEqual(texts.read_book(text="a"), (("a",), (1, (), ((0, ()),))))
        self.assertEqual(yields.way(book=book, held=1, word=1), (0,))
        self.assertIsNone(yields.way_fault(book=book, held=1, word=1, steps=(0,)))
        self.assertIs(masks.inside(mask=1, other=3), True)


if __name__ == "__main__":
    unittest.main()
