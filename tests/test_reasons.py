"""Points 12 and 13: the reasons of a word."""

import unittest

from doubthall.masks import mask_of
from doubthall.reasons import a_reason, reasons
from doubthall.texts import read_book
from hallbooks import made_books, mixed_books
from trial import all_reasons, sets_of, yields

# Words 0 to 2 are guesses.
BOOK = (10, (9, 9, 9), (
    (3, (0,)),
    (3, (1,)),
    (4, (2, 3)),      # from 0 and 2, or from 1 and 2
    (5, ()),
    (5, (0,)),        # follows from nothing anyway
    (6, (6, 0)),      # a head that only follows from itself
    (7, (0, 1)),
    (7, (0, 1, 2)),   # more than is needed
    (7, (2,)),
    (8, (8,)),
    (8, (4, 5)),
))
PAIRS = [(one, other) for one in range(8) for other in range(one + 1, 8)]


class AllReasons(unittest.TestCase):
    def told(self, word):
        return reasons(BOOK, word)

    def test_a_guess_has_its_own_reason(self):
        for guess in range(3):
            self.assertEqual(self.told(guess), (1 << guess,))
        for guess in range(8):
            self.assertEqual(reasons((8, tuple(range(8)), ()), guess), (1 << guess,))

    def test_several_rise_by_their_masks(self):
        self.assertEqual(self.told(3), (0b001, 0b010))
        self.assertEqual(self.told(4), (0b101, 0b110))
        self.assertEqual(self.told(7), (0b011, 0b100))

    def test_the_order_of_the_rules_does_not_count(self):
        for rules in (((3, (2,)), (3, (0, 1))), ((3, (0, 1)), (3, (2,)))):
            self.assertEqual(reasons((4, (3, 3, 3), rules), 3), (0b011, 0b100))

    def test_no_set_with_a_smaller_one_within_it(self):
        book = (4, (3, 3, 3), ((3, (0, 1, 2)), (3, (0, 1)), (3, (1,))))
        self.assertEqual(reasons(book, 3), (0b010,))

    def test_none_where_no_set_yields_it(self):
        self.assertEqual(self.told(6), ())
        self.assertEqual(self.told(9), ())
        self.assertEqual(reasons((3, (2,), ((1, (2,)), (2, (1,)))), 1), ())

    def test_the_empty_set_alone_where_that_yields_it(self):
        self.assertEqual(self.told(5), (0,))
        self.assertEqual(reasons((4, (3,), ((1, ()), (2, (1,)), (2, (0,)), (3, (2, 1)))), 3), (0,))

    def test_a_head_among_its_own_body(self):
        self.assertEqual(self.told(8), (0b101, 0b110))
        self.assertEqual(reasons((3, (2, 2), ((2, (0, 2)), (2, (1,)))), 2), (0b10,))

    def test_words_that_stand_in_no_row(self):
        self.assertEqual(reasons((2, (), ()), 1), ())
        self.assertEqual(reasons((30, (0,), ((1, (0,)),)), 29), ())

    def test_books_without_guesses(self):
        book = (4, (), ((0, ()), (1, (0,)), (2, (3,))))
        self.assertEqual([reasons(book, word) for word in range(4)], [(0,), (0,), (), ()])

    def test_chains_told_forwards_and_backwards(self):
        steps = [(k + 1, (k,)) for k in range(7, 29)]
        for rules in (steps, steps[::-1]):
            book = (30, (29,) * 8, tuple(rules))
            self.assertEqual(reasons(book, 29), (1 << 7,))

    def test_eight_guesses(self):
        self.assertEqual(reasons((10, (9,) * 8, ((8, (0, 1, 2, 3, 4, 5)), (9, (6, 7, 8)))), 9), (255,))
        self.assertEqual(reasons((9, (8,) * 8, tuple((8, pair) for pair in PAIRS)), 8),
                         tuple(sorted(1 << one | 1 << other for one, other in PAIRS)))

    def test_one_of_each_of_four_twos(self):
        rules = [(8 + guess // 2, (guess,)) for guess in range(8)] + [(12, (8, 9, 10, 11))]
        wanted = [mask_of([a, b, c, d]) for a in (0, 1) for b in (2, 3) for c in (4, 5) for d in (6, 7)]
        self.assertEqual(reasons((13, (12,) * 8, tuple(rules)), 12), tuple(sorted(wanted)))

    def test_a_word_that_two_rules_share(self):
        book = (5, (4, 4), ((2, (0,)), (3, (2,)), (4, (2, 3))))
        self.assertEqual(reasons(book, 4), (0b01,))

    def test_somewhat_beyond_the_bounds(self):
        book = (12, (11,) * 10, ((10, tuple(range(7))), (11, (7, 8, 9, 10)), (11, (0, 9))))
        self.assertEqual(reasons(book, 11), (mask_of([0, 9]),))
        self.assertEqual(reasons(book, 10), (127,))

    def test_the_kinds(self):
        for word in range(10):
            told = self.told(word)
            self.assertIs(type(told), tuple)
            self.assertEqual([type(mask) for mask in told], [int] * len(told))

    def test_of_what_was_read(self):
        names, book = read_book("guess sun unless ash\nguess ice unless ash\nash if sun\nash if ice\nwet if ash ice")
        self.assertEqual(names, ("ice", "sun", "ash", "wet"))
        self.assertEqual([reasons(book, word) for word in range(4)], [(1,), (2,), (1, 2), (1,)])

    def test_just_the_least_sets_for_many_books(self):
        seen = [0, 0, 0]
        for book in mixed_books(21, 200, 5) + [book for names, book in made_books(22, 12)]:
            for word in range(book[0]):
                wanted = all_reasons(book, word)
                self.assertEqual(reasons(book, word), tuple(wanted), (book, word))
                seen[min(len(wanted), 2)] += 1
        self.assertGreater(min(seen), 50)


class OneReason(unittest.TestCase):
    def test_within_the_told_set(self):
        self.assertEqual(a_reason(BOOK, 0b001, 3), 0b001)
        self.assertEqual(a_reason(BOOK, 0b110, 3), 0b010)
        self.assertIn(a_reason(BOOK, 0b111, 3), (0b001, 0b010))
        self.assertEqual(a_reason(BOOK, 0b101, 7), 0b100)
        self.assertEqual(a_reason(BOOK, 0b110, 8), 0b110)

    def test_none_where_the_set_does_not_yield_the_word(self):
        self.assertIsNone(a_reason(BOOK, 0b011, 4))
        self.assertIsNone(a_reason(BOOK, 0, 3))
        self.assertIsNone(a_reason(BOOK, 0b110, 0))
        self.assertIsNone(a_reason(BOOK, 0b111, 6))
        self.assertIsNone(a_reason(BOOK, 0b111, 9))
        self.assertIsNone(a_reason((1, (), ()), 0, 0))

    def test_the_empty_set_as_an_answer(self):
        for within in range(8):
            told = a_reason(BOOK, within, 5)
            self.assertEqual(told, 0)
            self.assertIs(type(told), int)
        self.assertEqual(a_reason((1, (), ((0, ()),)), 0, 0), 0)

    def test_a_guess(self):
        for within in range(8):
            for guess in range(3):
                self.assertEqual(a_reason(BOOK, within, guess), 1 << guess if within >> guess & 1 else None)

    def test_of_eight_guesses(self):
        book = (9, (8,) * 8, tuple((8, pair) for pair in PAIRS))
        for within in range(256):
            told = a_reason(book, within, 8)
            if bin(within).count("1") < 2:
                self.assertIsNone(told)
            else:
                self.assertEqual((bin(told).count("1"), told & within), (2, told))

    def test_one_of_the_least_sets_for_many_books(self):
        for book in mixed_books(23, 60, 4):
            for word in range(book[0]):
                wanted = all_reasons(book, word)
                for within in sets_of(book):
                    told = a_reason(book, within, word)
                    if not yields(book, within, word):
                        self.assertIsNone(told)
                        continue
                    self.assertIs(type(told), int)
                    self.assertIn(told, wanted, (book, within, word))
                    self.assertEqual(told & within, told)


if __name__ == "__main__":
    unittest.main()
