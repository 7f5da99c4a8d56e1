"""Points 14, 15 and 16: what a set strikes and defends, whether it stands, its flaw."""

import unittest

from doubthall.masks import mask_of, places
from doubthall.standing import at_peace, defended, flaw, stands, struck
from doubthall.texts import read_book
from hallbooks import made_books, mixed_books
from trial import (all_defended, all_struck, does_stand, has_peace, is_reason, members, sets_of, strikes)

EMPTY = (0, (), ())
# Guess 0 has the bane 4, from guess 1; guess 1 the bane 5, from guesses 2 and 3; guess 2 the bane 6, from no set;
# guess 3 the bane 7, from nothing.
BOOK = (8, (4, 5, 6, 7), ((4, (1,)), (5, (2, 3)), (7, ())))
# The guess 0 is its own bane, and guess 2's; the guess 1 is guess 0's.
BANES = (3, (0, 0, 1), ())
# Each of the two strikes the other.
RIVALS = (2, (1, 0), ())


class Struck(unittest.TestCase):
    def test_guesses_whose_bane_the_set_yields(self):
        self.assertEqual(struck(BOOK, mask_of([1])), mask_of([0, 3]))
        self.assertEqual(struck(BOOK, mask_of([2])), mask_of([3]))
        self.assertEqual(struck(BOOK, mask_of([2, 3])), mask_of([1, 3]))
        self.assertEqual(struck(BOOK, mask_of([0, 1, 2, 3])), mask_of([0, 1, 3]))

    def test_the_empty_set(self):
        self.assertEqual(struck(BOOK, 0), mask_of([3]))
        self.assertEqual(struck(BANES, 0), 0)
        self.assertEqual(struck(EMPTY, 0), 0)

    def test_banes_that_are_guesses(self):
        self.assertEqual(struck(BANES, mask_of([0])), mask_of([0, 1]))
        self.assertEqual(struck(BANES, mask_of([1])), mask_of([2]))
        self.assertEqual(struck(BANES, mask_of([2])), 0)
        self.assertEqual(struck(BANES, mask_of([0, 1, 2])), mask_of([0, 1, 2]))

    def test_two_guesses_with_one_bane(self):
        self.assertEqual(struck((3, (2, 2), ((2, (0,)),)), 0b01), 0b11)

    def test_by_a_chain(self):
        book = (5, (4, 0), ((4, (3,)), (3, (2,)), (2, (1,))))
        self.assertEqual(struck(book, 0b10), 0b01)
        self.assertEqual(struck(book, 0b01), 0b10)

    def test_of_what_was_read(self):
        names, book = read_book("guess sun unless wet\nguess ice unless sun\nwet if ice")
        self.assertEqual(names, ("ice", "sun", "wet"))
        self.assertEqual([struck(book, held) for held in range(4)], [0, 2, 1, 3])

    def test_for_many_books(self):
        for book in mixed_books(31, 60, 5) + [book for names, book in made_books(32, 10)]:
            for held in sets_of(book):
                told = struck(book, held)
                self.assertIs(type(told), int)
                self.assertEqual(set(places(told)), all_struck(book, held), (book, held))


class AtPeace(unittest.TestCase):
    def test_truths(self):
        for held, wanted in (([], True), ([0], True), ([1], True), ([0, 1], False), ([3], False), ([0, 2], True),
                             ([1, 2], True), ([1, 2, 3], False)):
            self.assertIs(at_peace(BOOK, mask_of(held)), wanted, held)
        self.assertIs(at_peace(EMPTY, 0), True)

    def test_a_guess_that_is_its_own_bane(self):
        self.assertIs(at_peace((1, (0,), ()), 1), False)
        self.assertIs(at_peace((1, (0,), ()), 0), True)

    def test_striking_others_breaks_no_peace(self):
        self.assertIs(at_peace(RIVALS, 0b01), True)
        self.assertIs(at_peace(RIVALS, 0b10), True)
        self.assertIs(at_peace(RIVALS, 0b11), False)

    def test_for_many_books(self):
        seen = {True: 0, False: 0}
        for book in mixed_books(33, 60, 5) + [book for names, book in made_books(34, 10)]:
            for held in sets_of(book):
                wanted = has_peace(book, held)
                self.assertIs(at_peace(book, held), wanted, (book, held))
                seen[wanted] += 1
        self.assertGreater(min(seen.values()), 200)


class Defended(unittest.TestCase):
    def test_a_guess_whose_bane_no_set_yields(self):
        self.assertEqual(defended((2, (1,), ()), 0), 1)
        for held in range(16):
            self.assertIn(2, places(defended(BOOK, held)))

    def test_a_guess_whose_bane_the_empty_set_yields(self):
        self.assertEqual(defended((2, (1,), ((1, ()),)), 0), 0)
        self.assertEqual(defended((2, (1,), ((1, ()),)), 1), 0)
        for held in range(16):
            self.assertNotIn(3, places(defended(BOOK, held)))

    def test_a_guess_of_its_own_or_not(self):
        self.assertEqual(defended(BOOK, 0), mask_of([1, 2]))
        self.assertEqual(defended(BOOK, mask_of([2, 3])), mask_of([0, 1, 2]))
        self.assertEqual(defended(BOOK, mask_of([0, 2, 3])), mask_of([0, 1, 2]))
        self.assertEqual(defended(RIVALS, 0b01), 0b01)
        self.assertEqual(defended(RIVALS, 0), 0)

    def test_a_set_that_is_not_at_peace_may_defend_too(self):
        self.assertEqual(defended(RIVALS, 0b11), 0b11)
        self.assertEqual(defended((1, (0,), ()), 1), 1)
        self.assertEqual(defended((1, (0,), ()), 0), 0)

    def test_one_struck_guess_of_each_set_is_enough(self):
        # Guess 0's bane follows from guesses 1 and 2; guess 3 is guess 1's bane, guess 4 guess 2's.
        book = (6, (5, 3, 4, 1, 2), ((5, (1, 2)),))
        self.assertIn(0, places(defended(book, mask_of([3]))))
        self.assertIn(0, places(defended(book, mask_of([4]))))
        self.assertNotIn(0, places(defended(book, 0)))

    def test_each_set_must_be_answered(self):
        # Guess 0's bane follows from guess 1 and also from guess 2; guess 3 is guess 1's bane, guess 4 guess 2's.
        book = (6, (5, 3, 4, 1, 2), ((5, (1,)), (5, (2,))))
        self.assertNotIn(0, places(defended(book, mask_of([3]))))
        self.assertNotIn(0, places(defended(book, mask_of([4]))))
        self.assertIn(0, places(defended(book, mask_of([3, 4]))))

    def test_no_guesses(self):
        self.assertEqual(defended(EMPTY, 0), 0)
        self.assertEqual(defended((2, (), ((0, ()),)), 0), 0)

    def test_for_many_books(self):
        others = 0
        for book in mixed_books(35, 60, 5) + [book for names, book in made_books(36, 6)]:
            for held in sets_of(book):
                told = defended(book, held)
                self.assertIs(type(told), int)
                self.assertEqual(set(places(told)), all_defended(book, held), (book, held))
                others += told != held
        self.assertGreater(others, 200)


class Stands(unittest.TestCase):
    def test_truths(self):
        for held, wanted in (([], True), ([1], True), ([2], True), ([1, 2], True), ([0], False), ([3], False),
                             ([0, 1], False), ([0, 2, 3], False), ([0, 1, 2, 3], False)):
            self.assertIs(stands(BOOK, mask_of(held)), wanted, held)

    def test_the_empty_set(self):
        for book in (EMPTY, BOOK, BANES, RIVALS, (2, (1,), ((1, ()),))):
            self.assertIs(stands(book, 0), True)

    def test_rivals(self):
        self.assertEqual([stands(RIVALS, held) for held in range(4)], [True, True, True, False])

    def test_peace_alone_is_not_enough(self):
        # Guess 1 strikes guess 0 and nothing strikes guess 1.
        book = (3, (1, 2), ())
        self.assertIs(at_peace(book, 0b01), True)
        self.assertIs(stands(book, 0b01), False)

    def test_defence_alone_is_not_enough(self):
        self.assertIs(stands((1, (0,), ()), 1), False)
        self.assertIs(stands(RIVALS, 0b11), False)

    def test_for_many_books(self):
        seen = {True: 0, False: 0}
        for book in mixed_books(37, 80, 5) + [book for names, book in made_books(38, 6)]:
            for held in sets_of(book):
                wanted = does_stand(book, held)
                self.assertIs(stands(book, held), wanted, (book, held))
                seen[wanted] += 1
        self.assertGreater(min(seen.values()), 200)


class Flaw(unittest.TestCase):
    def checked(self, book, held):
        """What point 16 asks of a flaw, each by itself; tells its kind."""
        told = flaw(book, held)
        if does_stand(book, held):
            self.assertIsNone(told, (book, held))
            return None
        self.assertEqual([type(part) for part in (told,) + told], [tuple, str, int, int])
        kind, guess, striker = told
        self.assertEqual(kind, "bare" if has_peace(book, held) else "torn", (book, held))
        self.assertIn(guess, members(held))
        self.assertTrue(is_reason(book, striker, book[1][guess]), (book, held, told))
        if kind == "torn":
            self.assertEqual(striker & held, striker, (book, held, told))
        else:
            self.assertFalse([other for other in members(striker) if strikes(book, held, other)], (book, held, told))
        return kind

    def test_none_where_the_set_stands(self):
        self.assertIsNone(flaw(EMPTY, 0))
        for held in ([], [1], [2], [1, 2]):
            self.assertIsNone(flaw(BOOK, mask_of(held)))
        for held in range(3):
            self.assertIsNone(flaw(RIVALS, held))

    def test_torn(self):
        self.assertEqual(flaw(BOOK, mask_of([0, 1])), ("torn", 0, mask_of([1])))
        self.assertEqual(flaw(BOOK, mask_of([3])), ("torn", 3, 0))
        self.assertEqual(flaw((1, (0,), ()), 1), ("torn", 0, 1))
        self.assertIn(flaw(RIVALS, 0b11), (("torn", 0, 0b10), ("torn", 1, 0b01)))

    def test_torn_comes_ahead_of_bare(self):
        # Guess 2 strikes guess 0 and is answered by nothing; guess 1 strikes itself.
        book = (4, (2, 1, 3), ())
        self.assertEqual(flaw(book, 0b011), ("torn", 1, 0b010))
        self.assertEqual(flaw(book, 0b001), ("bare", 0, 0b100))

    def test_bare(self):
        self.assertEqual(flaw(BOOK, mask_of([0])), ("bare", 0, mask_of([1])))
        self.assertEqual(flaw(BOOK, mask_of([0, 2])), ("bare", 0, mask_of([1])))

    def test_bare_by_a_striker_that_the_set_does_not_strike(self):
        # Guess 0's bane follows from guess 1, which guess 0 strikes, and from guess 2, which nothing strikes.
        book = (5, (3, 0, 4), ((3, (1,)), (3, (2,))))
        self.assertEqual(flaw(book, 0b001), ("bare", 0, 0b100))

    def test_the_striker_has_no_guess_that_is_not_needed(self):
        book = (5, (4, 3, 3, 3), ((4, (2,)),))
        self.assertEqual(flaw(book, 0b0001), ("bare", 0, 0b0100))
        self.assertEqual(flaw((4, (3, 2, 2), ((3, (1,)),)), 0b011), ("torn", 0, 0b010))

    def test_for_many_books(self):
        seen = {None: 0, "torn": 0, "bare": 0}
        for book in mixed_books(39, 80, 5) + [book for names, book in made_books(40, 6)]:
            for held in sets_of(book):
                seen[self.checked(book, held)] += 1
        self.assertGreater(min(seen.values()), 200)


if __name__ == "__main__":
    unittest.main()
