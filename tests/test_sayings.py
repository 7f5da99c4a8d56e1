"""Points 28, 29 and 30: sayings, what they strike, their labels, and that these settle the same as sets do."""

import unittest

from doubthall.reasons import reasons
from doubthall.sayings import labels, sayings, strikes
from doubthall.settled import settled
from doubthall.standing import struck
from doubthall.texts import read_book
from hallbooks import ladder, made_books, mixed_books, ring, rival_books, tower
from trial import all_labels, all_sayings, saying_strikes, settled_places, settled_set, strikes as set_strikes, yields

EMPTY = (0, (), ())
# Words 0 to 2 are guesses, with the banes 3, 3 and 4; 3 follows from guess 2, or from guesses 0 and 1; 4 follows from
# nothing; 5 stands in no row; 6 follows from 5 alone.
BOOK = (7, (3, 3, 4), ((3, (2,)), (3, (0, 1)), (4, ()), (4, (0,)), (6, (5,))))


def by_saying(book):
    return dict(zip(sayings(book), labels(book), strict=True))


class Sayings(unittest.TestCase):
    def test_all_in_their_order(self):
        self.assertEqual(sayings(BOOK), ((1, 0), (2, 1), (4, 2), (3, 3), (4, 3), (0, 4)))

    def test_the_words_rise_and_then_the_masks(self):
        book = (5, (4, 4, 4), ((4, (0,)), (3, (2,)), (3, (0, 1)), (4, (1,))))
        self.assertEqual(sayings(book), ((1, 0), (2, 1), (4, 2), (3, 3), (4, 3), (1, 4), (2, 4)))

    def test_the_empty_set(self):
        self.assertEqual(sayings((2, (), ((0, ()), (1, (0,))))), ((0, 0), (0, 1)))
        self.assertEqual(sayings((2, (1,), ((1, ()), (1, (0,))))), ((1, 0), (0, 1)))

    def test_none(self):
        self.assertEqual(sayings(EMPTY), ())
        self.assertEqual(sayings((3, (), ((0, (1,)), (1, (0,))))), ())

    def test_guesses_alone(self):
        self.assertEqual(sayings(ring(8)), tuple((1 << guess, guess) for guess in range(8)))

    def test_of_what_was_read(self):
        names, book = read_book("guess sun unless wet\nwet if rain\nguess rain unless dry\nwet if dew\ndew")
        self.assertEqual(names, ("rain", "sun", "dew", "dry", "wet"))
        self.assertEqual(sayings(book), ((1, 0), (2, 1), (0, 2), (0, 4)))

    def test_the_kinds(self):
        told = sayings(BOOK)
        self.assertIs(type(told), tuple)
        for saying in told:
            self.assertEqual([type(part) for part in (saying,) + saying], [tuple, int, int])

    def test_for_many_books(self):
        seen = 0
        for book in mixed_books(101, 60, 5) + rival_books(102, 30, 5) + [book for names, book in made_books(103, 6)]:
            told = sayings(book)
            self.assertEqual(told, all_sayings(book), book)
            for word in range(book[0]):
                self.assertEqual(tuple(reason for reason, of in told if of == word), reasons(book, word))
            seen += len(told) > book[0]
        self.assertGreater(seen, 10)


class Strikes(unittest.TestCase):
    def test_truths(self):
        self.assertIs(strikes(BOOK, (3, 3), (1, 0)), True)
        self.assertIs(strikes(BOOK, (4, 3), (1, 0)), True)
        self.assertIs(strikes(BOOK, (1, 0), (4, 3)), False)
        self.assertIs(strikes(BOOK, (0, 4), (4, 2)), True)
        self.assertIs(strikes(BOOK, (0, 4), (2, 1)), False)

    def test_only_the_word_of_the_one_and_the_set_of_the_other_count(self):
        # The first set has the bane's guess in it, the second word is that bane.
        book = (4, (2, 3), ((2, (1,)), (3, (0,))))
        self.assertIs(strikes(book, (0b10, 2), (0b01, 3)), True)
        self.assertIs(strikes(book, (0b01, 3), (0b10, 2)), True)
        self.assertIs(strikes(book, (0b10, 1), (0b01, 3)), False)
        self.assertIs(strikes(book, (0b10, 2), (0b10, 2)), False)

    def test_itself(self):
        self.assertIs(strikes((1, (0,), ()), (1, 0), (1, 0)), True)
        self.assertIs(strikes((2, (1,), ((1, (0,)),)), (1, 1), (1, 1)), True)
        self.assertIs(strikes((2, (1,), ((1, (0,)),)), (1, 0), (1, 0)), False)
        self.assertIs(strikes(BOOK, (3, 3), (3, 3)), True)

    def test_several_guesses_of_the_same_bane(self):
        for set_ in (1, 2, 3, 5, 6, 7):
            self.assertIs(strikes(BOOK, (4, 3), (set_, 3)), True)
        self.assertIs(strikes(BOOK, (4, 3), (4, 3)), False)
        self.assertIs(strikes(BOOK, (3, 3), (3, 3)), True)

    def test_a_guess_of_a_high_number(self):
        book = ring(8)
        for guess in range(8):
            for other in range(8):
                wanted = other == (guess + 1) % 8
                self.assertIs(strikes(book, (1 << guess, guess), (1 << other, other)), wanted)

    def test_the_empty_set_is_struck_by_nothing(self):
        for one in sayings(BOOK):
            self.assertIs(strikes(BOOK, one, (0, 4)), False)

    def test_for_many_books(self):
        seen = {True: 0, False: 0}
        for book in mixed_books(104, 40, 5) + rival_books(105, 20, 5):
            told = sayings(book)
            for one in told:
                for other in told:
                    wanted = saying_strikes(book, one, other)
                    self.assertIs(strikes(book, one, other), wanted, (book, one, other))
                    seen[wanted] += 1
        self.assertGreater(min(seen.values()), 200)


class Labels(unittest.TestCase):
    def test_what_nothing_strikes_is_in(self):
        self.assertEqual(labels((2, (1,), ())), ("in",))
        self.assertEqual(labels((2, (), ((0, ()), (1, (0,))))), ("in", "in"))
        self.assertEqual(labels((4, (3, 3), ((2, (0, 1)),))), ("in", "in", "in"))

    def test_none(self):
        self.assertEqual(labels(EMPTY), ())
        self.assertEqual(labels((1, (), ())), ())

    def test_what_a_saying_that_is_in_strikes_is_out(self):
        self.assertEqual(labels((2, (1,), ((1, ()),))), ("out", "in"))
        self.assertEqual(labels((3, (1, 2), ())), ("out", "in"))

    def test_rounds_of_more_than_two_steps(self):
        self.assertEqual(labels(ladder(8)), ("in", "out") * 4)
        self.assertEqual(labels(tower(8)), ("out", "in") * 4 + ("in",))

    def test_rings(self):
        self.assertEqual(labels(ring(2)), ("left", "left"))
        self.assertEqual(labels(ring(3)), ("left", "left", "left"))
        self.assertEqual(labels(ring(7)), ("left",) * 7)

    def test_a_ring_that_a_saying_breaks(self):
        # Guess 3 strikes guess 0, whose place in the ring it breaks.
        book = (6, (4, 0, 1, 5), ((4, (2,)), (4, (3,))))
        self.assertEqual(by_saying(book), {(1, 0): "out", (2, 1): "in", (4, 2): "out", (8, 3): "in", (4, 4): "out",
                                           (8, 4): "in"})

    def test_a_guess_that_is_its_own_bane(self):
        self.assertEqual(labels((1, (0,), ())), ("left",))
        # Guess 1 is its own bane, and guess 0's: neither ever comes in or goes out.
        self.assertEqual(labels((2, (1, 1), ())), ("left", "left"))

    def test_a_saying_that_strikes_itself_and_is_struck_by_the_empty_set(self):
        # Guess 1 yields its own bane 2, which follows from nothing too; guess 0 is struck by guess 1 alone.
        self.assertEqual(by_saying((4, (1, 2), ((2, (1,)), (2, ())))), {(1, 0): "in", (2, 1): "out", (0, 2): "in"})

    def test_a_saying_that_strikes_itself_and_is_struck_by_what_is_in(self):
        # Guess 0's bane 2 follows from guess 0 and also from guess 1, which nothing strikes.
        book = (4, (2, 3), ((2, (0,)), (2, (1,))))
        self.assertEqual(by_saying(book), {(1, 0): "out", (2, 1): "in", (1, 2): "out", (2, 2): "in"})

    def test_all_strikers_must_be_out(self):
        # Guess 0's bane 4 follows from guess 1, which guess 2 strikes, and from guess 3, which strikes itself.
        book = (6, (4, 2, 5, 3), ((4, (1,)), (4, (3,))))
        self.assertEqual(by_saying(book), {(1, 0): "left", (2, 1): "out", (4, 2): "in", (8, 3): "left", (2, 4): "out",
                                           (8, 4): "left"})

    def test_all_guesses_of_a_set_must_be_free(self):
        # Word 3 follows from guesses 0 and 1; guess 1 is its own bane; guess 2 is struck by word 3 alone.
        book = (5, (4, 1, 3), ((3, (0, 1)),))
        self.assertEqual(labels(book), ("in", "left", "left", "left"))

    def test_one_struck_guess_of_a_set_is_enough(self):
        # Guess 0 strikes guess 1, and so each set that holds guess 1.
        book = (6, (5, 0, 4), ((4, (0, 1)), (3, (1, 2))))
        self.assertEqual(by_saying(book), {(1, 0): "in", (2, 1): "out", (4, 2): "in", (6, 3): "out", (3, 4): "out"})

    def test_the_kinds(self):
        for book in (EMPTY, BOOK, ring(3), ladder(4)):
            told = labels(book)
            self.assertIs(type(told), tuple)
            self.assertEqual([type(label) for label in told], [str] * len(sayings(book)))

    def test_for_many_books(self):
        seen = {"in": 0, "out": 0, "left": 0}
        books = mixed_books(106, 80, 5) + rival_books(107, 60, 5) + [book for names, book in made_books(108, 6)]
        for book in books:
            told = labels(book)
            self.assertEqual(told, all_labels(book), book)
            for label in told:
                seen[label] += 1
        self.assertGreater(min(seen.values()), 100, seen)


class TheSameIsSettled(unittest.TestCase):
    def test_by_sets_and_by_sayings(self):
        seen = {"in": 0, "out": 0, "left": 0}
        books = mixed_books(109, 80, 5) + rival_books(110, 80, 6) + [ladder(8), tower(8), ring(8)]
        for book in books:
            held = settled_set(book)
            for (reason, word), label in by_saying(book).items():
                self.assertEqual(label == "in", reason & held == reason, (book, reason, word))
                hit = any(set_strikes(book, held, guess) for guess in range(len(book[1])) if reason >> guess & 1)
                self.assertEqual(label == "out", hit, (book, reason, word))
                seen[label] += 1
            self.assertEqual(settled(book)[0], held)
            self.assertEqual({guess for guess in range(len(book[1])) if (1 << guess, guess) in by_saying(book)
                              and by_saying(book)[1 << guess, guess] == "in"}, settled_places(book), book)
        self.assertGreater(min(seen.values()), 100, seen)

    def test_a_word_is_settled_just_where_a_saying_of_it_is_in(self):
        seen = {True: 0, False: 0}
        for book in mixed_books(111, 80, 5) + rival_books(112, 80, 6):
            held = settled(book)[0]
            won = {word for (reason, word), label in by_saying(book).items() if label == "in"}
            for word in range(book[0]):
                wanted = yields(book, held, word)
                self.assertEqual(word in won, wanted, (book, word))
                seen[wanted] += 1
        self.assertGreater(min(seen.values()), 100, seen)

    def test_books_of_the_bounds(self):
        for book in [book for names, book in made_books(113, 30)] + rival_books(114, 10, 8):
            held = settled(book)[0]
            for (reason, word), label in by_saying(book).items():
                self.assertEqual(label == "in", reason & held == reason, (book, reason, word))
                self.assertEqual(label == "out", reason & struck(book, held) != 0, (book, reason, word))

    def test_many_sayings(self):
        # One of each of four twos, down a chain of words: 16 reasons for each word of it.
        rules = [(8 + guess // 2, (guess,)) for guess in range(8)] + [(12, (8, 9, 10, 11))]
        rules += [(word + 1, (word,)) for word in range(12, 29)]
        book = (30, (29,) * 8, tuple(rules))
        self.assertEqual(len(sayings(book)), 8 + 8 + 18 * 16)
        self.assertEqual(set(labels(book)), {"left"})
        free = (31, (30,) * 8, tuple(rules))
        self.assertEqual(set(labels(free)), {"in"})


if __name__ == "__main__":
    unittest.main()
