"""Point 8: sets of numbers as masks."""

import itertools
import unittest

from doubthall.masks import inside, many, mask_of, places, shown_set

NAMES = ("rain", "sun", "ash", "bird", "cloud")
ALL_SIXTY = (1 << 60) - 1


class Places(unittest.TestCase):
    def test_they_rise(self):
        self.assertEqual(places(0), [])
        self.assertEqual(places(1), [0])
        self.assertEqual(places(2), [1])
        self.assertEqual(places(0b1011010), [1, 3, 4, 6])

    def test_up_to_the_bound(self):
        self.assertEqual(places(1 << 59), [59])
        self.assertEqual(places(1 << 59 | 1), [0, 59])
        self.assertEqual(places(ALL_SIXTY), list(range(60)))

    def test_they_add_up_to_the_mask(self):
        for mask in list(range(600)) + [7 ** k for k in range(22)]:
            told = places(mask)
            self.assertEqual(sum(1 << k for k in told), mask)
            self.assertEqual(told, sorted(set(told)))

    def test_a_told_list_is_a_new_one(self):
        first = places(0b101)
        second = places(0b101)
        first.append(7)
        self.assertEqual(second, [0, 2])
        self.assertEqual(places(0b101), [0, 2])
        self.assertIs(type(second), list)
        places(0).append(1)
        self.assertEqual(places(0), [])

    def test_a_told_list_stays_as_it_was(self):
        kept = places(0b110)
        places(0b1)
        mask_of([5])
        self.assertEqual(kept, [1, 2])

    def test_whole_numbers_are_no_truths(self):
        self.assertEqual([type(k) for k in places(3)], [int, int])


class MaskOf(unittest.TestCase):
    def test_in_any_order(self):
        for row in itertools.permutations([0, 2, 5]):
            self.assertEqual(mask_of(list(row)), 0b100101)

    def test_none_and_the_bounds(self):
        self.assertEqual(mask_of([]), 0)
        self.assertEqual(mask_of([0]), 1)
        self.assertEqual(mask_of([59]), 1 << 59)
        self.assertEqual(mask_of(list(range(60))), ALL_SIXTY)

    def test_one_that_comes_again_counts_once(self):
        self.assertEqual(mask_of([3, 3]), 8)
        self.assertEqual(mask_of([3, 0, 3, 0, 3]), 9)
        self.assertEqual(mask_of([59, 59, 59]), 1 << 59)

    def test_the_list_handed_in_is_not_changed(self):
        row = [4, 1, 4, 0]
        mask_of(row)
        self.assertEqual(row, [4, 1, 4, 0])

    def test_whole_numbers_are_no_truths(self):
        self.assertIs(type(mask_of([])), int)
        self.assertIs(type(mask_of([0])), int)

    def test_both_ways(self):
        for mask in list(range(300)) + [1 << 59, ALL_SIXTY, ALL_SIXTY - 2]:
            self.assertEqual(mask_of(places(mask)), mask)
        for row in itertools.combinations(range(0, 60, 7), 4):
            self.assertEqual(places(mask_of(list(row))), list(row))


class Many(unittest.TestCase):
    def test_how_many_places(self):
        for mask, count in ((0, 0), (1, 1), (2, 1), (3, 2), (0b10110, 3), (1 << 59, 1), (ALL_SIXTY, 60)):
            self.assertEqual(many(mask), count)
            self.assertIs(type(many(mask)), int)

    def test_as_many_as_are_told(self):
        for mask in range(300):
            self.assertEqual(many(mask), len(places(mask)))


class Inside(unittest.TestCase):
    def test_each_two_small_sets(self):
        for one in range(16):
            for other in range(16):
                wanted = set(places(one)) <= set(places(other))
                self.assertIs(inside(one, other), wanted, (one, other))

    def test_up_to_the_bound(self):
        self.assertIs(inside(1 << 59, ALL_SIXTY), True)
        self.assertIs(inside(ALL_SIXTY, ALL_SIXTY), True)
        self.assertIs(inside(ALL_SIXTY, ALL_SIXTY - 1), False)
        self.assertIs(inside(1 << 59, (1 << 59) - 1), False)
        self.assertIs(inside(0, 0), True)


class ShownSet(unittest.TestCase):
    def test_none_one_and_several(self):
        self.assertEqual(shown_set(NAMES, 0), "{}")
        self.assertEqual(shown_set((), 0), "{}")
        self.assertEqual(shown_set(NAMES, 1), "{rain}")
        self.assertEqual(shown_set(NAMES, 1 << 4), "{cloud}")
        self.assertEqual(shown_set(NAMES, 3), "{rain sun}")
        self.assertEqual(shown_set(NAMES, 31), "{rain sun ash bird cloud}")

    def test_in_the_order_of_the_numbers_not_of_the_names(self):
        self.assertEqual(shown_set(NAMES, 0b01110), "{sun ash bird}")


if __name__ == "__main__":
    unittest.main()
