"""Points 4 and 5 for one row: read_row."""

import unittest

from doubthall.errors import NoRow, TooMany, Twice
from doubthall.texts import read_row

NO_ROWS = (
    # nothing, blanks ahead, behind, doubled
    "", " ", "  ", " a", "a ", "a  if b", "a if  b", "a if b  c", "a if b ", " a if b",
    " guess g unless b", "guess g unless b ", "guess  g unless b", "guess g  unless b", "guess g unless  b",
    # words lacking or too many
    "a if", "a if ", "if", "if a", "a b", "a b c", "a b if c", "guess", "unless", "guess g", "guess g unless",
    "guess g unless ", "guess unless b", "guess g b", "guess g unless b c", "guess g unless b if c",
    "guess g if b", "g unless b", "a unless b", "guess g unless b unless c", "guess if a", "unless if a",
    # the three words that are no words, in the place of a word
    "if if a", "a if if", "a if guess", "a if unless", "a if b guess", "a if b unless c", "a if b if c",
    "guess guess unless b", "guess unless unless b", "guess if unless b", "guess g unless guess",
    "guess g unless unless", "guess g unless if",
    # words of thirteen letters
    "abcdefghijklm", "abcdefghijklm if b", "a if abcdefghijklm", "a if b abcdefghijklm",
    "guess abcdefghijklm unless b", "guess g unless abcdefghijklm",
    # other signs than small letters
    "A", "aB", "a1", "1", "a_b", "a-b", "a,b", "a.", "{a}", "a`", "`", "a~", "a if b, c", "a if B", "a if 2", "a if b @",
    "Guess g unless b", "GUESS g unless b", "guess g Unless b", "a If b", "a IF b", "guess G unless b",
    "guess g unless B", "guess g unless 3",
    # line feeds
    "\n", "a\n", "\na", "a\nb", "a if b\n", "a if\nb", "a\nif b", "a if b\nc", "guess g unless b\n",
    "guess\ng unless b", "guess g unless b\nc",
    # at fault by other reasons beside too many or twice behind `if`
    "a if b c d e f g H", "a if b c d e f g ", "a if b c d e f g if", "a  if b c d e f g h", "A if b c d e f g h",
    "guess if b c d e f g h", "a if b b ", "a if b b B", "a if b b abcdefghijklm", " a if b b", "if if b b",
    "a if b c d e f g\n",
)


class RowsThatAreRead(unittest.TestCase):
    def test_a_guess(self):
        self.assertEqual(read_row("guess sun unless rain"), ("guess", "sun", "rain"))

    def test_a_guess_that_is_its_own_bane(self):
        self.assertEqual(read_row("guess sun unless sun"), ("guess", "sun", "sun"))

    def test_a_rule_from_nothing(self):
        self.assertEqual(read_row("rain"), ("rule", "rain", ()))

    def test_a_rule_with_one_word(self):
        self.assertEqual(read_row("wet if rain"), ("rule", "wet", ("rain",)))

    def test_a_rule_with_six_words_as_written(self):
        self.assertEqual(read_row("h if f a e b d c"), ("rule", "h", ("f", "a", "e", "b", "d", "c")))

    def test_a_head_among_its_own_body(self):
        self.assertEqual(read_row("h if a h"), ("rule", "h", ("a", "h")))
        self.assertEqual(read_row("h if h"), ("rule", "h", ("h",)))

    def test_words_of_one_and_of_twelve_letters(self):
        for word in ("a", "z", "abcdefghijkl", "zzzzzzzzzzzz"):
            with self.subTest(word):
                self.assertEqual(read_row(word), ("rule", word, ()))
                self.assertEqual(read_row("x if " + word), ("rule", "x", (word,)))
                self.assertEqual(read_row(word + " if x"), ("rule", word, ("x",)))
                self.assertEqual(read_row(f"guess {word} unless x"), ("guess", word, "x"))
                self.assertEqual(read_row(f"guess x unless {word}"), ("guess", "x", word))

    def test_words_that_only_look_like_the_three(self):
        for word in ("guesses", "gues", "unlesss", "unles", "iff", "i", "ifguess", "lessun"):
            with self.subTest(word):
                self.assertEqual(read_row(f"{word} if a"), ("rule", word, ("a",)))
                self.assertEqual(read_row(f"guess {word} unless {word}"), ("guess", word, word))

    def test_the_kinds(self):
        self.assertIs(type(read_row("guess a unless b")), tuple)
        told = read_row("a if c b", 3)
        self.assertIs(type(told), tuple)
        self.assertIs(type(told[2]), tuple)
        self.assertIs(type(read_row("a")[2]), tuple)

    def test_the_number_changes_nothing_of_what_is_read(self):
        self.assertEqual(read_row("a if c b", 5), read_row("a if c b"))
        self.assertEqual(read_row("guess a unless b", row=5), read_row("guess a unless b"))


class RowsThatAreRefused(unittest.TestCase):
    def refused(self, kind, line):
        with self.assertRaises(kind) as taken:
            read_row(line)
        self.assertEqual((type(taken.exception), taken.exception.row), (kind, 0))
        for row in (0, 1, 12, int("8" * 80)):
            with self.assertRaises(kind) as taken:
                read_row(line, row)
            self.assertEqual((type(taken.exception), taken.exception.row), (kind, row))
        with self.assertRaises(kind) as taken:
            read_row(line, row=9)
        self.assertEqual(taken.exception.row, 9)

    def test_no_row(self):
        for line in NO_ROWS:
            with self.subTest(line):
                self.refused(NoRow, line)

    def test_too_many_behind_if(self):
        for line in ("a if b c d e f g h", "h if h b c d e f g", "a if " + " ".join("bcdefghijklmnop")):
            with self.subTest(line):
                self.refused(TooMany, line)

    def test_too_many_comes_ahead_of_twice(self):
        for line in ("a if b c d e f g b", "a if b b b b b b b"):
            with self.subTest(line):
                self.refused(TooMany, line)

    def test_twice_behind_if(self):
        for line in ("a if b b", "a if b c b", "a if b c d e f b", "a if c b b", "a if a a", "a if b b b b b b"):
            with self.subTest(line):
                self.refused(Twice, line)


if __name__ == "__main__":
    unittest.main()
