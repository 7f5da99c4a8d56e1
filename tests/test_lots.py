"""Points 25, 26 and 27: the lot of a word, what it tells beside it, and how it is shown."""

import unittest

from doubthall.lots import Lot, Maybe, Never, Settled, Sure, lot
from doubthall.masks import mask_of
from doubthall.texts import read_book
from hallbooks import GUESS_NAMES, OTHER_NAMES, ladder, made_books, mixed_books, ring, rival_books
from trial import all_camps, is_reason, lot_name, settled_set, yields

CLASSES = {"settled": Settled, "sure": Sure, "maybe": Maybe, "never": Never}

# Guesses: calm (0), rain (1), snow (2), sun (3); calm is struck by nothing, sun and rain strike each other, and snow
# strikes itself. Others: dull (4), light (5), none (6), rest (7), storm (8), wet (9).
TEXT = "\n".join((
    "guess sun unless rain",
    "guess rain unless sun",
    "guess calm unless storm",
    "guess snow unless snow",
    "light if sun",
    "light if rain",
    "wet if rain calm",
    "wet if snow",
    "rest if calm",
    "dull",
    "none if snow",
))
NAMES, BOOK = read_book(TEXT)
RAIN_CAMP, SUN_CAMP = 0b0011, 0b1001


def names_of(book):
    guesses = len(book[1])
    return GUESS_NAMES[:guesses] + OTHER_NAMES[:book[0] - guesses]


def told_of(word):
    return lot(BOOK, NAMES.index(word))


def by_shape(names, found):
    """The rows that point 26 asks for, from what the lot's fields tell."""
    def shown(mask):
        return "{" + " ".join(names[k] for k in range(len(names)) if mask >> k & 1) + "}"

    if isinstance(found, Settled):
        return ["settled " + shown(found.reason)]
    if isinstance(found, Sure):
        return ["sure"] + [shown(camp) + " " + shown(reason) for camp, reason in found.pairs]
    if isinstance(found, Maybe):
        return ["maybe", shown(found.camp) + " " + shown(found.reason), shown(found.other)]
    return ["never"]


class LotTest(unittest.TestCase):
    def checked(self, book, word):
        """What the points ask of the lot of a word, each by itself; tells what it is called."""
        found = lot(book, word)
        wanted = lot_name(book, word)
        self.assertIs(type(found), CLASSES[wanted], (book, word))
        self.assertEqual(found.called(), wanted)
        self.assertEqual(found.word, word)
        self.assertIs(type(found.word), int)
        getattr(self, "checked_" + wanted)(book, word, found)
        self.assertEqual(found.shown(names_of(book)), by_shape(names_of(book), found), (book, word))
        return wanted

    def reason_within(self, book, word, reason, within):
        self.assertIs(type(reason), int)
        self.assertTrue(is_reason(book, reason, word), (book, word, reason))
        self.assertEqual(reason & within, reason, (book, word, reason))

    def checked_settled(self, book, word, found):
        self.reason_within(book, word, found.reason, settled_set(book))

    def checked_sure(self, book, word, found):
        self.assertIs(type(found.pairs), tuple)
        for pair in found.pairs:
            self.assertEqual([type(part) for part in (pair,) + pair], [tuple, int, int])
            self.reason_within(book, word, pair[1], pair[0])
        self.assertEqual(tuple(camp for camp, reason in found.pairs), all_camps(book), (book, word))

    def checked_maybe(self, book, word, found):
        self.assertEqual([type(part) for part in (found.camp, found.other)], [int, int])
        self.assertIn(found.camp, all_camps(book))
        self.reason_within(book, word, found.reason, found.camp)
        self.assertIn(found.other, all_camps(book))
        self.assertFalse(yields(book, found.other, word), (book, word))

    def checked_never(self, book, word, found):
        for name in ("reason", "pairs", "camp", "other"):
            self.assertFalse(hasattr(found, name))


class Lots(LotTest):
    def test_the_book_of_these_tests(self):
        self.assertEqual(NAMES, ("calm", "rain", "snow", "sun", "dull", "light", "none", "rest", "storm", "wet"))
        self.assertEqual(all_camps(BOOK), (RAIN_CAMP, SUN_CAMP))

    def test_settled(self):
        for word, reason in (("calm", 0b0001), ("rest", 0b0001), ("dull", 0)):
            found = told_of(word)
            self.assertIs(type(found), Settled)
            self.assertEqual((found.called(), found.word, found.reason), ("settled", NAMES.index(word), reason))

    def test_sure(self):
        found = told_of("light")
        self.assertIs(type(found), Sure)
        self.assertEqual((found.called(), found.word), ("sure", NAMES.index("light")))
        self.assertEqual(found.pairs, ((RAIN_CAMP, 0b0010), (SUN_CAMP, 0b1000)))

    def test_maybe(self):
        for word, camp, reason, other in (("sun", SUN_CAMP, 0b1000, RAIN_CAMP), ("rain", RAIN_CAMP, 0b0010, SUN_CAMP),
                                          ("wet", RAIN_CAMP, 0b0011, SUN_CAMP)):
            found = told_of(word)
            self.assertIs(type(found), Maybe)
            self.assertEqual((found.called(), found.word), ("maybe", NAMES.index(word)))
            self.assertEqual((found.camp, found.reason, found.other), (camp, reason, other))

    def test_never(self):
        for word in ("snow", "none", "storm"):
            found = told_of(word)
            self.assertIs(type(found), Never)
            self.assertEqual((found.called(), found.word), ("never", NAMES.index(word)))

    def test_settled_comes_ahead_of_sure(self):
        # Every camp yields what the settled set yields.
        for book in (BOOK, ladder(5), (2, (1,), ()), (1, (), ((0, ()),))):
            for word in range(book[0]):
                if yields(book, settled_set(book), word):
                    self.assertEqual(lot(book, word).called(), "settled")

    def test_sure_with_the_same_reason_in_each_camp(self):
        # Guesses 0 and 1 strike each other and both strike guess 2, which strikes guess 3: so all camps hold guess 3.
        book = (7, (1, 0, 4, 2), ((4, (0,)), (4, (1,)), (5, (3,))))
        for word in (3, 5):
            self.assertEqual(lot(book, word).pairs, ((0b1001, 0b1000), (0b1010, 0b1000)))

    def test_one_camp_leaves_only_settled_sure_and_never(self):
        self.assertEqual([lot(ladder(4), word).called() for word in range(5)],
                         ["settled", "never", "settled", "never", "never"])
        # Guesses 0 and 1 strike each other, guesses 1 and 2 strike themselves: nothing is settled.
        book = (4, (1, 3, 2), ((3, (0,)), (3, (1,))))
        self.assertEqual(all_camps(book), (0b001,))
        self.assertEqual([lot(book, word).called() for word in range(4)], ["sure", "never", "never", "sure"])
        self.assertEqual(lot(book, 3).pairs, ((0b001, 0b001),))

    def test_reasons_are_within_the_set_that_they_are_told_with(self):
        # Word 4 follows from each guess; guesses 0 and 1 strike each other, guess 2 strikes itself, guess 3 is settled
        # in the second book alone.
        rules = tuple((4, (guess,)) for guess in range(4))
        self.assertEqual(lot((5, (1, 0, 2, 3), rules), 4).pairs, ((0b0001, 0b0001), (0b0010, 0b0010)))
        found = lot((6, (1, 0, 2, 5), rules), 4)
        self.assertEqual((found.called(), found.reason), ("settled", 0b1000))

    def test_a_reason_has_no_guess_that_is_not_needed(self):
        found = lot((5, (4, 4, 4), ((3, (1,)),)), 3)
        self.assertEqual((found.called(), found.reason), ("settled", 0b010))

    def test_a_word_that_the_empty_set_yields(self):
        for book in ((1, (), ((0, ()),)), (3, (0,), ((1, ()), (2, (1,)))), (4, (1, 0), ((2, ()), (3, (2,))))):
            found = lot(book, book[0] - 1)
            self.assertEqual((found.called(), found.reason), ("settled", 0))

    def test_words_that_stand_in_no_row(self):
        for book, word in (((1, (), ()), 0), ((30, (1, 0), ()), 29), ((6, (2,), ((1, ()),)), 5)):
            self.assertIs(type(lot(book, word)), Never)

    def test_a_guess_whose_bane_follows_from_nothing(self):
        self.assertEqual(lot((2, (1,), ((1, ()),)), 0).called(), "never")

    def test_rings(self):
        self.assertEqual([lot(ring(2), word).called() for word in range(2)], ["maybe", "maybe"])
        self.assertEqual([lot(ring(3), word).called() for word in range(3)], ["never"] * 3)

    def test_the_classes(self):
        self.assertEqual(Lot.__bases__, (object,))
        for kind in CLASSES.values():
            self.assertEqual(kind.__bases__, (Lot,))

    def test_for_many_books(self):
        seen = dict.fromkeys(CLASSES, 0)
        books = mixed_books(91, 60, 4) + rival_books(92, 60, 4) + rival_books(93, 8, 6)
        for book in books + [book for names, book in made_books(94, 4)]:
            for word in range(book[0]):
                seen[self.checked(book, word)] += 1
        self.assertGreater(min(seen.values()), 30, seen)


class Shown(unittest.TestCase):
    def test_settled(self):
        self.assertEqual(told_of("rest").shown(NAMES), ["settled {calm}"])
        self.assertEqual(told_of("dull").shown(NAMES), ["settled {}"])
        found = lot((4, (3, 3), ((2, (0, 1)),)), 2)
        self.assertEqual(found.shown(("ga", "gb", "wa", "wb")), ["settled {ga gb}"])

    def test_sure(self):
        self.assertEqual(told_of("light").shown(NAMES), ["sure", "{calm rain} {rain}", "{calm sun} {sun}"])
        self.assertEqual(lot((4, (1, 3, 2), ((3, (0,)), (3, (1,)))), 0).shown(("ga", "gb", "gc", "wa")),
                         ["sure", "{ga} {ga}"])

    def test_maybe(self):
        self.assertEqual(told_of("wet").shown(NAMES), ["maybe", "{calm rain} {calm rain}", "{calm sun}"])
        self.assertEqual(told_of("sun").shown(NAMES), ["maybe", "{calm sun} {sun}", "{calm rain}"])
        self.assertEqual(lot(ring(2), 1).shown(("ga", "gb")), ["maybe", "{gb} {gb}", "{ga}"])

    def test_never(self):
        self.assertEqual(told_of("snow").shown(NAMES), ["never"])

    def test_the_names_are_those_handed_in(self):
        self.assertEqual(told_of("rest").shown(("a", "b", "c", "d") + NAMES[4:]), ["settled {a}"])

    def test_a_new_list_each_time(self):
        for word in ("rest", "light", "wet", "none"):
            found = told_of(word)
            first = found.shown(NAMES)
            kept = list(first)
            self.assertEqual([type(part) for part in [first] + first], [list] + [str] * len(first))
            first.append("x")
            first[0] = "y"
            self.assertEqual(found.shown(NAMES), kept)
            self.assertIsNot(found.shown(NAMES), found.shown(NAMES))

    def test_two_lots_beside_each_other(self):
        one, other = told_of("light"), told_of("wet")
        again = told_of("light")
        one.pairs = ()
        self.assertEqual(len(again.pairs), 2)
        self.assertEqual((one.word, other.word), (NAMES.index("light"), NAMES.index("wet")))


if __name__ == "__main__":
    unittest.main()
