"""Points 22, 23 and 24: camps, full sets, and that the settled set lies in every camp."""

import unittest

from doubthall.camps import camps, full
from doubthall.masks import inside, mask_of
from doubthall.settled import settled
from doubthall.standing import stands
from doubthall.texts import read_book
from hallbooks import ladder, made_books, mixed_books, ring, rival_books, tower
from trial import all_camps, all_full, does_stand, sets_of, settled_set

EMPTY = (0, (), ())
NO_GUESSES = (3, (), ((0, ()), (1, (0,))))
# Guess 0 and guess 1 strike each other, guess 2 and guess 3 do too.
TWICE_TWO = (4, (1, 0, 3, 2), ())
# Guess 0 and guess 1 strike each other, and both strike guess 2, which strikes guess 3; guess 4 is settled.
FLOATING = (7, (1, 0, 5, 2, 6), ((5, (0,)), (5, (1,))))


class Camps(unittest.TestCase):
    def test_books_without_guesses(self):
        for book in (EMPTY, NO_GUESSES):
            self.assertEqual(camps(book), (0,))
            self.assertEqual(camps(book, 0), (0,))

    def test_the_empty_set_as_the_only_camp(self):
        for book in ((1, (0,), ()), (2, (1,), ((1, ()),)), ring(3), ring(5)):
            self.assertEqual(camps(book), (0,))
            for held in sets_of(book):
                self.assertEqual(camps(book, held), () if held else (0,))

    def test_the_empty_set_is_no_camp_beside_a_larger_one(self):
        self.assertEqual(camps((2, (1,), ())), (1,))
        self.assertEqual(camps((4, (3, 3, 3), ())), (7,))
        self.assertEqual(camps(ring(2)), (0b01, 0b10))

    def test_several_rise_by_their_masks(self):
        self.assertEqual(camps(TWICE_TWO), (0b0101, 0b0110, 0b1001, 0b1010))
        self.assertEqual(camps(FLOATING), (0b11001, 0b11010))
        self.assertEqual(camps(ring(6)), (0b010101, 0b101010))
        self.assertEqual(camps(ring(8)), (0b01010101, 0b10101010))

    def test_rounds_have_one_camp(self):
        self.assertEqual(camps(ladder(8)), (0b01010101,))
        self.assertEqual(camps(tower(8)), (0b10101010,))

    def test_camps_of_unlike_sizes(self):
        # Guess 0 strikes guesses 1 and 2, either of which strikes guess 0.
        book = (4, (3, 0, 0), ((3, (1,)), (3, (2,))))
        self.assertEqual(camps(book), (0b001, 0b110))
        # Guess 2 strikes itself and nothing strikes it else but guess 0, which guess 1 strikes and which strikes it.
        book = (4, (1, 0, 3), ((3, (0,)), (3, (2,))))
        self.assertEqual(camps(book), (0b001, 0b010))

    def test_those_that_hold_a_told_set(self):
        self.assertEqual(camps(TWICE_TWO, mask_of([0])), (0b0101, 0b1001))
        self.assertEqual(camps(TWICE_TWO, mask_of([3])), (0b1001, 0b1010))
        self.assertEqual(camps(TWICE_TWO, mask_of([1, 2])), (0b0110,))
        self.assertEqual(camps(FLOATING, mask_of([3])), (0b11001, 0b11010))
        self.assertEqual(camps(FLOATING, mask_of([0, 4])), (0b11001,))

    def test_all_with_the_empty_set(self):
        for book in (TWICE_TWO, FLOATING, ring(6), ladder(5)):
            self.assertEqual(camps(book, 0), camps(book))
            self.assertEqual(camps(book, holding=0), camps(book))

    def test_none_where_no_camp_holds_it(self):
        self.assertEqual(camps(TWICE_TWO, mask_of([0, 1])), ())
        self.assertEqual(camps(FLOATING, mask_of([2])), ())
        self.assertEqual(camps(FLOATING, 0b11111), ())
        self.assertEqual(camps((1, (0,), ()), 1), ())

    def test_a_set_that_stands_but_lies_in_another(self):
        self.assertIs(stands(TWICE_TWO, mask_of([0])), True)
        self.assertNotIn(mask_of([0]), camps(TWICE_TWO, mask_of([0])))

    def test_of_what_was_read(self):
        names, book = read_book("guess sun unless wet\nguess rain unless dry\nwet if rain\ndry if sun")
        self.assertEqual(names, ("rain", "sun", "dry", "wet"))
        self.assertEqual(camps(book), (0b01, 0b10))

    def test_the_kinds(self):
        for told in (camps(TWICE_TWO), camps(TWICE_TWO, 1), camps(TWICE_TWO, 3), camps(EMPTY)):
            self.assertIs(type(told), tuple)
            self.assertEqual([type(mask) for mask in told], [int] * len(told))

    def test_somewhat_beyond_the_bounds(self):
        self.assertEqual(camps(ring(10)), (0b0101010101, 0b1010101010))
        self.assertEqual(camps(ladder(11)), (0b10101010101,))

    def test_for_many_books(self):
        seen = {}
        books = mixed_books(71, 60, 5) + mixed_books(72, 6, 8) + [book for names, book in made_books(73, 8)]
        for book in books + rival_books(79, 150, 5) + rival_books(80, 6, 8):
            wanted = all_camps(book)
            self.assertEqual(camps(book), wanted, book)
            for held in sets_of(book):
                holding = tuple(camp for camp in wanted if camp & held == held)
                self.assertEqual(camps(book, held), holding, (book, held))
                if does_stand(book, held):
                    self.assertTrue(holding, (book, held))
            seen[len(wanted)] = seen.get(len(wanted), 0) + 1
        self.assertGreater(min(seen[many] for many in (1, 2, 3)), 10, seen)


class Full(unittest.TestCase):
    def test_books_without_guesses(self):
        self.assertEqual(full(EMPTY), (0,))
        self.assertEqual(full(NO_GUESSES), (0,))

    def test_books_that_have_none(self):
        for book in ((1, (0,), ()), ring(3), ring(5), (3, (0, 2), ())):
            self.assertEqual(full(book), ())

    def test_several_rise(self):
        self.assertEqual(full(ring(2)), (0b01, 0b10))
        self.assertEqual(full(TWICE_TWO), (0b0101, 0b0110, 0b1001, 0b1010))
        self.assertEqual(full(FLOATING), (0b11001, 0b11010))
        self.assertEqual(full(ring(8)), (0b01010101, 0b10101010))

    def test_the_empty_set(self):
        self.assertEqual(full((2, (1,), ((1, ()),))), (0,))
        self.assertEqual(full((2, (1,), ())), (1,))

    def test_a_camp_that_is_not_full(self):
        # Guess 2 strikes itself, unless guess 0 is held, which strikes it too.
        book = (4, (1, 0, 3), ((3, (0,)), (3, (2,))))
        self.assertEqual(camps(book), (0b001, 0b010))
        self.assertEqual(full(book), (0b001,))

    def test_peace_alone_and_striking_all_others_alone_are_not_enough(self):
        self.assertNotIn(0b0001, full(TWICE_TWO))
        self.assertNotIn(0b0111, full(TWICE_TWO))

    def test_the_kinds(self):
        for told in (full(TWICE_TWO), full(EMPTY), full(ring(3))):
            self.assertIs(type(told), tuple)
            self.assertEqual([type(mask) for mask in told], [int] * len(told))

    def test_for_many_books(self):
        seen = [0, 0, 0]
        others = 0
        books = mixed_books(74, 60, 5) + mixed_books(75, 10, 8) + [book for names, book in made_books(76, 20)]
        for book in books + rival_books(81, 150, 5) + rival_books(82, 10, 8):
            wanted = all_full(book)
            told = full(book)
            self.assertEqual(told, wanted, book)
            for held in told:
                self.assertIn(held, camps(book), book)
            others += len(camps(book)) > len(told) > 0
            seen[min(len(wanted), 2)] += 1
        self.assertGreater(min(seen), 15, seen)
        self.assertGreater(others, 5)


class TheSettledSet(unittest.TestCase):
    def test_it_lies_in_every_camp(self):
        seen = 0
        for book in mixed_books(77, 100, 6) + rival_books(83, 150, 6) + [FLOATING, TWICE_TWO]:
            held = settled(book)[0]
            self.assertEqual(held, settled_set(book))
            told = camps(book)
            self.assertGreater(len(told), 0)
            for camp in told:
                self.assertTrue(inside(held, camp), (book, held, camp))
            seen += held != 0 and len(told) > 1
        self.assertGreater(seen, 5)

    def test_it_may_be_smaller_than_what_all_camps_share(self):
        self.assertEqual(settled(FLOATING)[0], 0b10000)
        self.assertEqual(camps(FLOATING), (0b11001, 0b11010))


if __name__ == "__main__":
    unittest.main()
