"""Point 17: rounds, the settled set and the ranks."""

import unittest

from doubthall.settled import settled
from doubthall.standing import stands
from doubthall.texts import read_book
from hallbooks import ladder, made_books, mixed_books, tower
from trial import ranks_of, settled_places


class Settled(unittest.TestCase):
    def test_no_guesses_at_all(self):
        self.assertEqual(settled((0, (), ())), (0, ()))
        self.assertEqual(settled((2, (), ((0, ()), (1, (0,))))), (0, ()))

    def test_what_the_empty_set_defends(self):
        self.assertEqual(settled((2, (1,), ())), (1, (1,)))
        self.assertEqual(settled((4, (3, 3, 3), ())), (7, (1, 1, 1)))

    def test_none_for_what_is_not_settled(self):
        self.assertEqual(settled((2, (1,), ((1, ()),))), (0, (None,)))
        self.assertEqual(settled((1, (0,), ())), (0, (None,)))
        self.assertEqual(settled((2, (1, 0), ())), (0, (None, None)))
        self.assertEqual(settled((4, (1, 0, 3), ())), (0b100, (None, None, 1)))

    def test_rounds_of_more_than_two_steps(self):
        self.assertEqual(settled(ladder(3)), (0b101, (1, None, 2)))
        self.assertEqual(settled(ladder(6)), (0b10101, (1, None, 2, None, 3, None)))
        self.assertEqual(settled(ladder(8)), (0b1010101, (1, None, 2, None, 3, None, 4, None)))
        self.assertEqual(settled(tower(8)), (0b10101010, (None, 1, None, 2, None, 3, None, 4)))

    def test_the_rounds_do_not_go_by_number(self):
        # Guess 4 is struck by none and strikes guess 1, which strikes guess 3, which strikes guess 0, which strikes
        # guess 2.
        self.assertEqual(settled((6, (3, 4, 0, 1, 5), ())), (0b11100, (None, None, 3, 2, 1)))
        self.assertEqual(settled((6, (3, 4, 0, 5, 3), ())), (0b01110, (None, 2, 2, 1, None)))

    def test_all_strikers_must_be_answered_by_the_round_before(self):
        # Guess 0's bane follows from guess 1, which is struck in round 1, and from guess 2, struck in round 2.
        book = (8, (5, 4, 3, 1, 7), ((5, (1,)), (5, (2,)), (6, ())))
        self.assertEqual(settled(book), (0b11001, (3, None, None, 2, 1)))

    def test_a_ring_that_a_settled_guess_breaks(self):
        ring = (4, (2, 0, 1, 3), ((3, ()),))
        self.assertEqual(settled(ring), (0, (None, None, None, None)))
        # Guess 3 strikes guess 0 too, so that guess 1 comes and strikes guess 2.
        broken = (6, (4, 0, 1, 5), ((4, (2,)), (4, (3,))))
        self.assertEqual(settled(broken), (0b1010, (None, 2, None, 1)))

    def test_of_what_was_read(self):
        names, book = read_book("guess sun unless wet\nguess rain unless dry\nguess dust unless rain\nwet if rain\n"
                                "dry if dust wind")
        self.assertEqual(names[:3], ("dust", "rain", "sun"))
        self.assertEqual(settled(book), (0b010, (None, 1, None)))

    def test_the_kinds(self):
        told = settled(ladder(5))
        self.assertEqual([type(part) for part in (told,) + told], [tuple, int, tuple])
        self.assertEqual([type(rank) for rank in told[1]], [int, type(None), int, type(None), int])
        for rank in settled((4, (3, 3, 3), ()))[1]:
            self.assertIs(type(rank), int)

    def test_for_many_books(self):
        seen = {}
        for book in mixed_books(41, 150, 5) + mixed_books(42, 25, 8) + [book for names, book in made_books(43, 20)]:
            held, ranks = settled(book)
            self.assertEqual(ranks, ranks_of(book), book)
            self.assertEqual(held, sum(1 << guess for guess in settled_places(book)), book)
            self.assertTrue(stands(book, held), book)
            for rank in ranks:
                seen[rank] = seen.get(rank, 0) + 1
        self.assertGreater(min(seen[rank] for rank in (None, 1, 2)), 40)
        self.assertIn(3, seen)


if __name__ == "__main__":
    unittest.main()
