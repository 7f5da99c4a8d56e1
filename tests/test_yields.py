"""Points 9, 10 and 11: what a set yields, ways and their faults."""

import random
import unittest

from doubthall.masks import mask_of, places
from doubthall.texts import read_book
from doubthall.yields import way, way_fault, yielded
from hallbooks import made_books

EMPTY = (0, (), ())
# Words 0 and 1 are guesses; a chain told backwards, one from nothing, a head that only follows from itself.
BOOK = (8, (7, 7), (
    (4, (3,)),        # rule 0
    (3, (0, 2)),      # rule 1
    (2, ()),          # rule 2
    (5, (5,)),        # rule 3
    (4, (0,)),        # rule 4
    (6, (1, 4)),      # rule 5
    (6, (6, 2)),      # rule 6
))


def least_closed(book, held):
    """The words that each closed set with the held guesses has: point 9 by trying all sets of words."""
    common = (1 << book[0]) - 1
    for words in range(1 << book[0]):
        closed = all(words >> head & 1 or any(not words >> k & 1 for k in body) for head, body in book[2])
        if closed and words & held == held:
            common &= words
    return common


def told_fault(book, held, word, steps):
    """Point 10 by its words, with no mask of what is known."""
    rules = book[2]
    for place, step in enumerate(steps):
        if step < 0 or step >= len(rules):
            return place
        heads = [rules[earlier][0] for earlier in steps[:place]]
        if any(k not in places(held) and k not in heads for k in rules[step][1]):
            return place
    if word not in places(held) and word not in [rules[step][0] for step in steps]:
        return len(steps)
    return None


class Yielded(unittest.TestCase):
    def told(self, held):
        return places(yielded(BOOK, mask_of(held)))

    def test_the_empty_set_yields_what_follows_from_nothing(self):
        self.assertEqual(self.told([]), [2])
        self.assertEqual(yielded(EMPTY, 0), 0)
        self.assertEqual(yielded((3, (2,), ()), 0), 0)
        self.assertEqual(yielded((3, (), ((0, ()), (1, (0,)))), 0), 0b011)

    def test_some_and_all_guesses(self):
        self.assertEqual(self.told([0]), [0, 2, 3, 4])
        self.assertEqual(self.told([1]), [1, 2])
        self.assertEqual(self.told([0, 1]), [0, 1, 2, 3, 4, 6])

    def test_guesses_without_rules_yield_themselves(self):
        for held in range(8):
            self.assertEqual(yielded((4, (3, 3, 0), ()), held), held)

    def test_chains_told_forwards_and_backwards(self):
        steps = [(k + 1, (k,)) for k in range(29)]
        for rules in (steps, steps[::-1], steps[1::2] + steps[::2]):
            book = (30, (29,), tuple(rules))
            self.assertEqual(yielded(book, 1), (1 << 30) - 1)
            self.assertEqual(yielded(book, 0), 0)

    def test_a_head_among_its_own_body_never_brings_itself(self):
        self.assertEqual(yielded((2, (1,), ((1, (0, 1)),)), 1), 1)
        self.assertEqual(yielded((1, (), ((0, (0,)),)), 0), 0)
        self.assertEqual(yielded((3, (2,), ((1, (2,)), (2, (1,)))), 1), 1)
        self.assertEqual(yielded((3, (2,), ((1, (1, 2)), (2, ()), (1, (0,)))), 1), 0b111)

    def test_all_words_of_a_body_are_needed(self):
        book = (7, (6,) * 6, ((6, (0, 1, 2, 3, 4, 5)),))
        for held in range(64):
            self.assertEqual(yielded(book, held) >> 6, 1 if held == 63 else 0)

    def test_whole_numbers_are_no_truths(self):
        self.assertIs(type(yielded(EMPTY, 0)), int)
        self.assertIs(type(yielded(BOOK, 3)), int)

    def test_the_least_closed_set_for_many_books(self):
        for names, book in made_books(1, 120, most_guesses=4, most_others=4, most_rules=9):
            for held in range(1 << len(book[1])):
                self.assertEqual(yielded(book, held), least_closed(book, held), (book, held))

    def test_of_what_was_read(self):
        names, book = read_book("guess sun unless rain\nguess ice unless sun\nrain if wet\nwet if sun ice")
        self.assertEqual(names, ("ice", "sun", "rain", "wet"))
        self.assertEqual([yielded(book, held) for held in range(4)], [0, 1, 2, 15])


class WayFault(unittest.TestCase):
    def fault(self, held, word, steps):
        return way_fault(BOOK, mask_of(held), word, steps)

    def test_none(self):
        self.assertIsNone(self.fault([], 2, (2,)))
        self.assertIsNone(self.fault([0], 4, (4,)))
        self.assertIsNone(self.fault([0], 4, (2, 1, 0)))
        self.assertIsNone(self.fault([0, 1], 6, (4, 5)))

    def test_none_also_with_steps_that_are_not_needed(self):
        self.assertIsNone(self.fault([0], 2, (2, 4, 1)))
        self.assertIsNone(self.fault([0], 0, (2,)))

    def test_the_empty_tuple(self):
        self.assertIsNone(self.fault([0], 0, ()))
        self.assertIsNone(self.fault([0, 1], 1, ()))
        self.assertEqual(self.fault([0], 1, ()), 0)
        self.assertEqual(self.fault([], 2, ()), 0)

    def test_a_number_below_nought(self):
        self.assertEqual(self.fault([0], 2, (-1,)), 0)
        self.assertEqual(self.fault([0], 2, (2, -1)), 1)
        self.assertEqual(self.fault([0], 2, (2, -7)), 1)
        self.assertEqual(self.fault([0], 2, (2, 4, -5)), 2)

    def test_the_first_one_past_the_rules(self):
        self.assertEqual(self.fault([0, 1], 6, (4, 5, 7)), 2)
        self.assertEqual(self.fault([0, 1], 6, (7, 4, 5)), 0)
        self.assertIsNone(self.fault([0, 1], 6, (2, 4, 5, 6)))
        self.assertEqual(way_fault(EMPTY, 0, 0, (0,)), 0)

    def test_numbers_of_many_figures(self):
        large = int("9" * 300)
        for number in (large, -large, 1 << 64, -(1 << 64)):
            self.assertEqual(self.fault([0], 2, (2, number)), 1)
            self.assertEqual(self.fault([0], 2, (number, 2)), 0)

    def test_a_body_that_is_not_there_yet(self):
        self.assertEqual(self.fault([0], 4, (1, 2, 0)), 0)
        self.assertEqual(self.fault([0], 4, (2, 0, 1)), 1)
        self.assertEqual(self.fault([1], 6, (2, 5)), 1)
        self.assertEqual(self.fault([0], 6, (4, 5)), 1)

    def test_the_first_of_several(self):
        self.assertEqual(self.fault([0], 7, (2, 0, 99, -1)), 1)
        self.assertEqual(self.fault([0], 7, (2, 99, 0)), 1)

    def test_a_step_does_not_bring_its_own_body(self):
        self.assertEqual(self.fault([0, 1], 5, (3,)), 0)
        self.assertEqual(self.fault([0, 1], 6, (2, 6)), 1)

    def test_guesses_that_are_not_held_are_not_there(self):
        self.assertEqual(self.fault([], 4, (4,)), 0)
        self.assertEqual(self.fault([1], 4, (4,)), 0)

    def test_the_word_not_reached(self):
        self.assertEqual(self.fault([0], 3, (2,)), 1)
        self.assertEqual(self.fault([0, 1], 7, (2, 1, 0, 5)), 4)
        self.assertEqual(self.fault([0], 7, (2,) * 300), 300)
        self.assertEqual(self.fault([0], 1, (4,)), 1)

    def test_a_step_that_comes_twice_is_no_fault(self):
        self.assertIsNone(self.fault([0], 4, (4, 4)))
        self.assertIsNone(self.fault([0], 4, (2, 2, 1, 0, 4, 2)))
        self.assertIsNone(self.fault([0], 2, (2,) * 300))

    def test_whole_numbers_are_no_truths(self):
        self.assertIs(type(self.fault([0], 2, (-1,))), int)
        self.assertIs(type(self.fault([0], 2, (2, -1))), int)
        self.assertIs(type(self.fault([0], 1, ())), int)

    def test_as_the_point_tells_for_many_tuples(self):
        dice = random.Random(2)
        seen = {}
        for names, book in made_books(3, 300, most_guesses=4, most_others=5, most_rules=8):
            for _ in range(30):
                held = dice.randrange(1 << len(book[1]))
                word = dice.randrange(book[0])
                steps = tuple(dice.randint(-1, len(book[2])) for _ in range(dice.randint(0, 4)))
                wanted = told_fault(book, held, word, steps)
                self.assertEqual(way_fault(book, held, word, steps), wanted, (book, held, word, steps))
                seen[wanted] = seen.get(wanted, 0) + 1
        self.assertGreater(min(seen[wanted] for wanted in (None, 0, 1, 2, 3)), 20)


class Way(unittest.TestCase):
    def checked(self, book, held, word):
        """What point 11 asks of a way, each by itself."""
        steps = way(book, held, word)
        if word not in places(yielded(book, held)):
            self.assertIsNone(steps)
            return None
        self.assertIs(type(steps), tuple)
        self.assertEqual([type(step) for step in steps], [int] * len(steps))
        self.assertIsNone(told_fault(book, held, word, steps), (book, held, word, steps))
        self.assertIsNone(way_fault(book, held, word, steps))
        heads = [book[2][step][0] for step in steps]
        self.assertEqual(len(set(heads)), len(heads), (book, held, word, steps))
        if word in places(held):
            self.assertEqual(steps, ())
        else:
            self.assertEqual(heads[-1], word)
        for place in range(len(steps) - 1):
            later = [k for step in steps[place + 1:] for k in book[2][step][1]]
            self.assertIn(heads[place], later, (book, held, word, steps))
        return steps

    def test_a_held_guess(self):
        self.assertEqual(way(BOOK, 0b01, 0), ())
        self.assertEqual(way(BOOK, 0b11, 1), ())

    def test_none_where_the_word_is_not_yielded(self):
        self.assertIsNone(way(BOOK, 0b01, 1))
        self.assertIsNone(way(BOOK, 0, 0))
        self.assertIsNone(way(BOOK, 0b11, 5))
        self.assertIsNone(way(BOOK, 0b11, 7))
        self.assertIsNone(way(BOOK, 0b10, 6))

    def test_one_step(self):
        self.assertEqual(way(BOOK, 0, 2), (2,))
        self.assertEqual(way(BOOK, 0b11, 2), (2,))

    def test_either_of_two_ways(self):
        self.assertIn(self.checked(BOOK, 0b01, 4), ((4,), (2, 1, 0)))

    def test_a_chain_told_backwards(self):
        book = (5, (4,), ((4, (3,)), (3, (2,)), (2, (1,)), (1, (0,))))
        self.assertEqual(way(book, 1, 4), (3, 2, 1, 0))
        self.assertEqual(way(book, 1, 2), (3, 2))

    def test_steps_beside_the_way_are_left_out(self):
        book = (5, (4,), ((1, ()), (2, (0,)), (3, (0, 1, 2)), (4, (2,))))
        self.assertEqual(way(book, 1, 4), (1, 3))
        self.assertEqual(self.checked(book, 1, 3)[-1], 2)

    def test_one_step_for_a_word_that_several_rules_bring(self):
        book = (4, (3,), ((1, ()), (1, (0,)), (2, (1,)), (2, (0, 1)), (3, (1, 2))))
        self.assertEqual(len(self.checked(book, 1, 3)), 3)

    def test_the_longest_chain(self):
        book = (30, (29,), tuple((k + 1, (k,)) for k in reversed(range(29))))
        self.assertEqual(way(book, 1, 29), tuple(reversed(range(29))))

    def test_each_word_of_many_books(self):
        for names, book in made_books(4, 60):
            for held in range(0, 1 << len(book[1]), 5):
                for word in range(book[0]):
                    self.checked(book, held, word)

    def test_each_word_of_many_small_books(self):
        longest = 0
        for names, book in made_books(5, 300, most_guesses=3, most_others=6, most_rules=14):
            for held in range(1 << len(book[1])):
                for word in range(book[0]):
                    longest = max(longest, len(self.checked(book, held, word) or ()))
        self.assertGreater(longest, 3)


if __name__ == "__main__":
    unittest.main()
