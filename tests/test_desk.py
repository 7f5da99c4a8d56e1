"""Points 31, 32 and 33: the desk, its lines and answers, and what it refuses."""

import random
import re
import unittest

from doubthall.camps import camps
from doubthall.desk import Desk
from doubthall.errors import Headed, HallError, NoAsk, NoRow, NotGuess, NotTold, NoWord, RowError, TooMany, Twice
from doubthall.lots import lot
from doubthall.masks import mask_of, shown_set
from doubthall.settled import settled
from doubthall.standing import flaw
from doubthall.texts import read_book, read_row, shown_book, shown_rule
from doubthall.yields import way, way_fault
from trial import yields

# Guesses: calm, rain, snow, sun; sun and rain strike each other, snow strikes itself, calm is struck by nothing.
TEXT = "\n".join((
    "guess sun unless rain",
    "light if sun",
    "guess rain unless sun",
    "light if rain",
    "guess calm unless storm",
    "dull",
    "guess snow unless snow",
    "wet if rain calm",
    "rest if calm dull",
))
SHOWN = [
    "guess calm unless storm",
    "guess rain unless sun",
    "guess snow unless snow",
    "guess sun unless rain",
    "light if sun",
    "light if rain",
    "dull",
    "wet if calm rain",
    "rest if calm dull",
]
LINES = ("book", "ranks", "camps", "camps calm", "flaw", "flaw sun rain", "lot wet", "lot light", "why rest by calm")
SMALL = ("a", "b", "c", "d", "e")


class DeskTest(unittest.TestCase):
    def refused(self, kind, desk, line):
        """The line is refused with just this kind, and nothing has changed; tells the refusal."""
        before = self.state(desk)
        with self.assertRaises(HallError) as taken:
            desk.ask(line)
        self.assertIs(type(taken.exception), kind, line)
        self.assertEqual(self.state(desk), before, line)
        return taken.exception

    def refused_row(self, kind, row, desk, line):
        found = self.refused(kind, desk, line)
        self.assertEqual(found.row, row, line)
        self.assertIs(type(found.row), int)

    def state(self, desk):
        told = []
        for line in ("book", "ranks", "camps", "flaw"):
            told.append(desk.ask(line))
        # Told as a guess, a rule's head is refused with the number of a row: so the order of the rows shows too.
        for row in told[0]:
            if not row.startswith("guess "):
                told.append(self.headed_row(desk, "guess " + row.split(" ")[0] + " unless a"))
        return told

    def headed_row(self, desk, row):
        try:
            desk.ask("tell " + row)
        except RowError as found:
            return (type(found), found.row)
        raise AssertionError(row)


class Begins(DeskTest):
    def test_of_a_text(self):
        self.assertEqual(Desk(TEXT).ask("book"), SHOWN)
        self.assertEqual(Desk(text="dull").ask("book"), ["dull"])

    def test_of_the_empty_text_and_of_none(self):
        for desk in (Desk(), Desk("")):
            self.assertEqual(desk.ask("book"), [])
            self.assertEqual(desk.ask("ranks"), [])
            self.assertEqual(desk.ask("camps"), ["{}"])
            self.assertEqual(desk.ask("flaw"), ["stands"])
            self.refused(NoWord, desk, "lot sun")

    def test_a_text_that_is_refused(self):
        nine = "\n".join("guess " + name + " unless x" for name in "abcdefghi")
        for text, kind, row in (("\n", NoRow, 0), ("a\n", NoRow, 1), ("a\nB", NoRow, 1), (" a", NoRow, 0),
                                ("a\nb if c c", Twice, 1), ("a\nb\na", Twice, 2), ("a if b c\na if c b", Twice, 1),
                                ("a if b c d e f g h", TooMany, 0), (nine, TooMany, 8),
                                ("guess a unless b\nc\na if c", Headed, 2), ("c\na if c\nguess a unless b", Headed, 1)):
            with self.assertRaises(HallError) as taken:
                Desk(text)
            self.assertIs(type(taken.exception), kind, text)
            self.assertEqual(taken.exception.row, row, text)

    def test_the_rows_are_kept_in_their_order(self):
        desk = Desk(TEXT)
        for word, row in (("light", 1), ("dull", 5), ("wet", 7), ("rest", 8)):
            self.refused_row(Headed, row, desk, "tell guess " + word + " unless calm")

    def test_two_desks_beside_each_other(self):
        one, other = Desk(TEXT), Desk(TEXT)
        self.assertEqual(one.ask("tell storm"), [])
        self.assertEqual(other.ask("book"), SHOWN)
        self.assertEqual(other.ask("drop dull"), [])
        self.assertEqual(one.ask("book"), SHOWN + ["storm"])
        first, second = Desk(), Desk()
        first.ask("tell a")
        self.assertEqual(second.ask("book"), [])
        self.assertEqual(Desk().ask("book"), [])

    def test_no_base_but_pythons_own(self):
        self.assertEqual(Desk.__bases__, (object,))


class Lines(DeskTest):
    def setUp(self):
        self.desk = Desk(TEXT)

    def test_lot(self):
        self.assertEqual(self.desk.ask("lot calm"), ["settled {calm}"])
        self.assertEqual(self.desk.ask("lot dull"), ["settled {}"])
        self.assertEqual(self.desk.ask("lot light"), ["sure", "{calm rain} {rain}", "{calm sun} {sun}"])
        self.assertEqual(self.desk.ask("lot wet"), ["maybe", "{calm rain} {calm rain}", "{calm sun}"])
        self.assertEqual(self.desk.ask("lot sun"), ["maybe", "{calm sun} {sun}", "{calm rain}"])
        self.assertEqual(self.desk.ask("lot snow"), ["never"])
        self.assertEqual(self.desk.ask("lot storm"), ["never"])

    def test_why_without_by(self):
        self.assertEqual(self.desk.ask("why dull"), ["yes", "dull"])
        self.assertEqual(self.desk.ask("why calm"), ["no"])
        self.assertEqual(self.desk.ask("why light"), ["no"])
        self.assertEqual(self.desk.ask("why storm"), ["no"])

    def test_why_with_by(self):
        self.assertEqual(self.desk.ask("why calm by calm"), ["yes"])
        self.assertEqual(self.desk.ask("why wet by rain calm"), ["yes", "wet if calm rain"])
        self.assertEqual(self.desk.ask("why wet by calm rain"), ["yes", "wet if calm rain"])
        self.assertEqual(self.desk.ask("why rest by calm"), ["yes", "dull", "rest if calm dull"])
        self.assertEqual(self.desk.ask("why rest by calm sun rain"), ["yes", "dull", "rest if calm dull"])
        self.assertEqual(self.desk.ask("why wet by rain"), ["no"])
        self.assertEqual(self.desk.ask("why rest by sun rain snow"), ["no"])
        self.assertIn(self.desk.ask("why light by rain sun"), (["yes", "light if sun"], ["yes", "light if rain"]))

    def test_why_of_the_word_by(self):
        desk = Desk("guess by unless no\nyes if by")
        self.assertEqual(desk.ask("why by"), ["no"])
        self.assertEqual(desk.ask("why by by by"), ["yes"])
        self.assertEqual(desk.ask("why by by by by"), ["yes"])
        self.assertEqual(desk.ask("why yes by by"), ["yes", "yes if by"])
        self.refused(NoAsk, desk, "why by by")

    def test_words_that_are_called_like_lines(self):
        firsts = ("book", "camps", "drop", "flaw", "lot", "ranks", "tell", "why")
        desk = Desk("\n".join(["guess " + name + " unless x" for name in firsts] + ["y if " + name for name in firsts]))
        for name in firsts:
            self.assertEqual(desk.ask("lot " + name), ["settled {" + name + "}"])
            self.assertEqual(desk.ask("why " + name), ["no"])
            self.assertEqual(desk.ask("why " + name + " by " + name), ["yes"])
            self.assertEqual(desk.ask("why y by " + name), ["yes", "y if " + name])
            self.assertEqual(desk.ask("flaw " + name), ["stands"])
            self.assertEqual(desk.ask("camps " + name), ["{" + " ".join(firsts) + "}"])
            self.refused_row(Headed, 16, desk, "tell " + name)
            self.refused(NotTold, desk, "drop " + name)
        self.assertEqual(desk.ask("ranks"), [name + " 1" for name in firsts])

    def test_flaw(self):
        self.assertEqual(self.desk.ask("flaw"), ["stands"])
        self.assertEqual(self.desk.ask("flaw calm"), ["stands"])
        self.assertEqual(self.desk.ask("flaw sun calm"), ["stands"])
        self.assertEqual(self.desk.ask("flaw snow"), ["torn snow {snow}"])
        self.assertIn(self.desk.ask("flaw sun calm rain"), (["torn sun {rain}"], ["torn rain {sun}"]))
        desk = Desk("guess a unless x\nguess b unless y\nguess c unless y\nx if b c\nguess d unless e\ne")
        self.assertEqual(desk.ask("flaw a"), ["bare a {b c}"])
        self.assertEqual(desk.ask("flaw d"), ["torn d {}"])
        self.assertEqual(desk.ask("flaw c a b"), ["torn a {b c}"])

    def test_ranks(self):
        self.assertEqual(self.desk.ask("ranks"), ["calm 1", "rain -", "snow -", "sun -"])
        self.assertEqual(Desk("dull").ask("ranks"), [])
        rows = ["guess a unless no"] + ["guess " + one + " unless " + other for one, other in
                                        (("d", "c"), ("c", "b"), ("b", "a"), ("e", "d"), ("g", "f"), ("f", "e"))]
        self.assertEqual(Desk("\n".join(rows)).ask("ranks"), ["a 1", "b -", "c 2", "d -", "e 3", "f -", "g 4"])

    def test_camps(self):
        both = ["{calm rain}", "{calm sun}"]
        self.assertEqual(self.desk.ask("camps"), both)
        self.assertEqual(self.desk.ask("camps calm"), both)
        self.assertEqual(self.desk.ask("camps sun"), both[1:])
        self.assertEqual(self.desk.ask("camps rain calm"), both[:1])
        self.assertEqual(self.desk.ask("camps rain sun"), [])
        self.assertEqual(self.desk.ask("camps snow"), [])
        self.assertEqual(Desk("guess a unless a").ask("camps"), ["{}"])

    def test_book(self):
        self.assertEqual(self.desk.ask("book"), SHOWN)
        self.assertEqual(Desk().ask("book"), [])
        self.assertEqual("\n".join(SHOWN), shown_book(*read_book(TEXT)))

    def test_a_guess_that_is_named_twice_counts_once(self):
        for once, twice in (("camps sun", "camps sun sun"), ("flaw sun", "flaw sun sun sun"),
                            ("why wet by rain calm", "why wet by rain calm rain calm"),
                            ("why wet by rain", "why wet by rain rain"), ("flaw snow", "flaw snow snow")):
            self.assertEqual(self.desk.ask(once), self.desk.ask(twice))

    def test_many_guesses_in_a_line(self):
        self.assertEqual(self.desk.ask("camps" + " sun" * 300), ["{calm sun}"])

    def test_a_new_list_each_time(self):
        for line in LINES + ("why dull",):
            first = self.desk.ask(line)
            kept = list(first)
            self.assertEqual([type(part) for part in [first] + first], [list] + [str] * len(first))
            first.append("x")
            first[0] = "y"
            self.assertEqual(self.desk.ask(line), kept)
        one, other = self.desk.ask("tell a"), self.desk.ask("tell b")
        one.append("x")
        self.assertEqual(other, [])
        self.assertEqual(self.desk.ask("drop a"), [])
        self.assertEqual(self.desk.ask("book"), SHOWN + ["b"])

    def test_what_was_told_stays_as_it_was(self):
        told = self.desk.ask("book")
        self.desk.ask("tell storm")
        self.assertEqual(told, SHOWN)

    def test_the_answers_are_those_of_the_rows_kept_now(self):
        self.desk.ask("tell storm")
        self.assertEqual(self.desk.ask("ranks"), ["calm -", "rain -", "snow -", "sun -"])
        self.assertEqual(self.desk.ask("camps"), ["{rain}", "{sun}"])
        self.assertEqual(self.desk.ask("lot calm"), ["never"])
        self.assertEqual(self.desk.ask("flaw calm"), ["torn calm {}"])
        self.desk.ask("drop guess sun unless rain")
        self.assertEqual(self.desk.ask("lot rain"), ["settled {rain}"])
        self.refused(NotGuess, self.desk, "camps sun")
        self.desk.ask("drop storm")
        self.assertEqual(self.desk.ask("why wet by calm rain"), ["yes", "wet if calm rain"])
        self.desk.ask("drop wet if calm rain")
        self.refused(NoWord, self.desk, "lot wet")


class Tells(DeskTest):
    def test_behind_the_rows_kept(self):
        desk = Desk("a if b")
        for row in ("c if b a", "guess b unless d", "d", "guess aa unless a"):
            self.assertEqual(desk.ask("tell " + row), [])
        self.assertEqual(desk.ask("book"), ["guess aa unless a", "guess b unless d", "a if b", "c if b a", "d"])
        self.refused_row(Headed, 1, desk, "tell guess c unless d")
        self.refused_row(Headed, 3, desk, "tell guess d unless d")
        self.refused_row(Headed, 5, desk, "tell aa if a")

    def test_what_is_no_row(self):
        desk = Desk("a\nb\nguess c unless a")
        for row in ("", " ", " d", "d ", "d  if a", "d if  a", "D", "d if", "d if ", "if", "guess", "unless", "guess d",
                    "guess d unless", "guess d if a", "d1", "abcdefghijklm", "d if a if b", "d e", "tell d", "d;",
                    "guess d unless a b", "d if a\n", "\nd", "d\ne", "\n", "d if a\nb", "d\n", "guess d unless a\nf"):
            self.refused_row(NoRow, 3, desk, "tell " + row)

    def test_what_is_no_row_of_a_desk_without_rows(self):
        for desk in (Desk(), Desk("")):
            for row in ("", " ", "\n", "a\nb", "if", " a"):
                self.refused_row(NoRow, 0, desk, "tell " + row)
            self.assertEqual(desk.ask("tell a"), [])
            self.refused_row(NoRow, 1, desk, "tell ")
            self.refused_row(NoRow, 1, desk, "tell b\nc")

    def test_twice(self):
        desk = Desk("a if b c\nguess g unless a\nd")
        for row in ("a if b c", "a if c b", "guess g unless a", "guess g unless b", "d", "e if a a"):
            self.refused_row(Twice, 3, desk, "tell " + row)
        self.assertEqual(desk.ask("tell a if b"), [])
        self.assertEqual(desk.ask("tell a"), [])

    def test_too_many(self):
        desk = Desk("a")
        self.refused_row(TooMany, 1, desk, "tell h if b c d e f g i")
        self.refused_row(TooMany, 1, desk, "tell h if b b c d e f g")
        self.assertEqual(desk.ask("tell h if b c d e f g"), [])

    def test_the_ninth_guess(self):
        desk = Desk()
        for name in "abcdefgh":
            self.assertEqual(desk.ask("tell guess " + name + " unless x"), [])
        self.refused_row(TooMany, 8, desk, "tell guess i unless x")
        self.refused_row(Twice, 8, desk, "tell guess h unless y")
        self.assertEqual(desk.ask("drop guess c unless x"), [])
        self.assertEqual(desk.ask("tell guess i unless x"), [])
        self.refused_row(TooMany, 8, desk, "tell guess c unless x")

    def test_the_41st_rule(self):
        desk = Desk("guess a unless b")
        pairs = [one + " if " + other for one in "bcdefgh" for other in "cdefgh"]
        for row in pairs[:40]:
            self.assertEqual(desk.ask("tell " + row), [])
        self.refused_row(TooMany, 41, desk, "tell " + pairs[40])
        self.refused_row(Twice, 41, desk, "tell " + pairs[3])
        desk.ask("drop " + pairs[7])
        self.assertEqual(desk.ask("tell " + pairs[40]), [])

    def test_the_31st_word(self):
        words = ["w" + sign for sign in "abcdefghijklmnopqrstuvwxyz"] + ["va", "vb", "vc", "vd"]
        desk = Desk("\n".join(words[:29]))
        self.refused_row(TooMany, 29, desk, "tell guess x unless y")
        self.refused_row(TooMany, 29, desk, "tell x if wa y")
        self.assertEqual(desk.ask("tell vd"), [])
        self.refused_row(TooMany, 30, desk, "tell x")
        self.assertEqual(desk.ask("drop wc"), [])
        self.assertEqual(desk.ask("tell x"), [])

    def test_headed(self):
        desk = Desk("a if b\nc if d\nguess b unless c")
        self.refused_row(Headed, 0, desk, "tell guess a unless c")
        self.refused_row(Headed, 1, desk, "tell guess c unless c")
        self.refused_row(Headed, 3, desk, "tell b if a")
        self.refused_row(Headed, 3, desk, "tell b")
        self.assertEqual(desk.ask("tell guess d unless c"), [])

    def test_other_faults_come_ahead_of_headed(self):
        desk = Desk("a if b\nguess b unless c")
        self.refused_row(NoRow, 2, desk, "tell guess a unless")
        self.refused_row(Twice, 2, desk, "tell b if a a")
        self.refused_row(TooMany, 2, desk, "tell b if c d e f g h i")
        eight = Desk("\n".join(["x"] + ["guess " + name + " unless y" for name in "abcdefgh"]))
        self.refused_row(TooMany, 9, eight, "tell guess x unless y")

    def test_just_as_the_last_row_of_a_text(self):
        desk = Desk(TEXT)
        for row in ("guess light unless sun", "sun if rain", "guess sun unless sun", "light if rain", "x if y y",
                    "x if", "x if a b c d e f g", "rest if dull calm", "guess dull unless dull"):
            with self.assertRaises(RowError) as wanted:
                read_book(TEXT + "\n" + row)
            self.refused_row(type(wanted.exception), wanted.exception.row, desk, "tell " + row)


class Drops(DeskTest):
    def test_a_guess_and_a_rule(self):
        desk = Desk(TEXT)
        self.assertEqual(desk.ask("drop guess snow unless snow"), [])
        self.assertEqual(desk.ask("drop dull"), [])
        self.assertEqual(desk.ask("drop light if rain"), [])
        wanted = [row for row in SHOWN if row not in ("guess snow unless snow", "dull", "light if rain")]
        self.assertEqual(desk.ask("book"), wanted)
        self.refused(NotTold, desk, "drop dull")

    def test_the_words_in_another_order(self):
        desk = Desk("a if b c d\na if b c\na if b\na")
        self.assertEqual(desk.ask("drop a if d b c"), [])
        self.assertEqual(desk.ask("book"), ["a if b c", "a if b", "a"])
        self.assertEqual(desk.ask("drop a if c b"), [])
        self.assertEqual(desk.ask("drop a"), [])
        self.assertEqual(desk.ask("book"), ["a if b"])

    def test_what_is_not_kept(self):
        desk = Desk(TEXT)
        for row in ("guess sun unless sun", "guess moon unless rain", "guess rain unless rain", "light",
                    "light if calm", "light if sun rain", "wet if rain", "wet if rain calm sun", "moon",
                    "dull if dull", "sun", "calm", "rest if calm", "guess light unless sun"):
            self.refused(NotTold, desk, "drop " + row)

    def test_what_is_no_row(self):
        for desk in (Desk(TEXT), Desk(), Desk("a if b c d e f g")):
            for row in ("", " ", " dull", "dull ", "dull\n", "\n", "dull\nrest if calm dull", "DULL", "light if", "if",
                        "guess sun", "light  if sun", "light if sun sun", "a if b c d e f g h", "guess sun unless",
                        "drop dull", "a if b b"):
                self.refused(NotTold, desk, "drop " + row)

    def test_the_rows_behind_move_up(self):
        desk = Desk("a\nb\nguess g unless a\nc")
        self.refused_row(Headed, 3, desk, "tell guess c unless a")
        desk.ask("drop a")
        self.refused_row(Headed, 2, desk, "tell guess c unless b")
        self.refused_row(NoRow, 3, desk, "tell ")
        desk.ask("drop guess g unless a")
        self.refused_row(Headed, 1, desk, "tell guess c unless b")
        self.assertEqual(desk.ask("tell g if b"), [])
        self.assertEqual(desk.ask("book"), ["b", "c", "g if b"])

    def test_told_again_it_stands_last(self):
        desk = Desk("a\nb\nc")
        desk.ask("drop a")
        desk.ask("tell a")
        self.assertEqual(desk.ask("book"), ["b", "c", "a"])

    def test_the_last_row(self):
        for row in ("a", "guess a unless a", "a if b c"):
            desk = Desk(row)
            self.assertEqual(desk.ask("drop " + row), [])
            self.assertEqual(desk.ask("book"), [])
            self.assertEqual(desk.ask("camps"), ["{}"])
            self.refused(NoWord, desk, "lot a")
            self.refused(NotTold, desk, "drop " + row)
            self.refused_row(NoRow, 0, desk, "tell ")
            self.assertEqual(desk.ask("tell " + row), [])

    def test_a_word_without_rows_is_gone(self):
        desk = Desk("a if b\nb if c")
        desk.ask("drop b if c")
        self.assertEqual(desk.ask("lot b"), ["never"])
        self.refused(NoWord, desk, "lot c")


class Refusals(DeskTest):
    def setUp(self):
        self.desk = Desk(TEXT)

    def test_first_words(self):
        for line in ("", " ", "\n", "x", "lots wet", "Lot wet", "LOT wet", "guess", "if", "guess a unless b", "a if b",
                     "wet", "by", "rank", "camp sun", "flaws", "bookx", "tellx", "tells a", "dropx a", "book\n",
                     "ranks\n", "lot\nwet", "tell\na", "drop\ndull", "\nbook", "why\nwet", "{}", "0"):
            self.refused(NoAsk, self.desk, line)

    def test_words_lacking(self):
        for line in ("lot", "why", "why wet by", "tell", "drop", "why by by"):
            self.refused(NoAsk, self.desk, line)

    def test_words_too_many(self):
        for line in ("lot wet wet", "lot wet by sun", "ranks sun", "ranks ranks", "book sun", "book book",
                     "why wet sun", "why wet sun rain", "why wet rain by sun"):
            self.refused(NoAsk, self.desk, line)

    def test_the_third_word_of_why(self):
        for line in ("why wet with sun", "why wet if sun", "why wet By sun", "why wet sun sun", "why wet by\n sun"):
            self.refused(NoAsk, self.desk, line)

    def test_blanks(self):
        for line in (" lot wet", "lot wet ", "lot  wet", "lot ", " book", "book ", "book  ", "ranks ", " ranks",
                     "camps ", "camps  sun", "camps sun ", "camps sun  rain", " camps", "flaw ", "flaw  sun",
                     "flaw sun ", " flaw", "why ", "why  wet", "why wet ", "why wet  by sun", "why wet by ",
                     "why wet by  sun", "why wet by sun ", "why wet by sun  rain", " why wet", " tell a", " drop dull", "  "):
            self.refused(NoAsk, self.desk, line)

    def test_what_is_no_word(self):
        for part in ("guess", "unless", "if", "Sun", "sun1", "abcdefghijklm", "s-n", "{sun}", "sun\n", "1", "-", "\n"):
            for line in ("lot " + part, "why " + part, "why " + part + " by sun", "why wet by " + part,
                         "why wet by sun " + part, "flaw " + part, "flaw sun " + part, "camps " + part,
                         "camps " + part + " sun"):
                self.refused(NoAsk, self.desk, line)

    def test_words_of_twelve_letters(self):
        desk = Desk("guess abcdefghijkl unless a")
        self.assertEqual(desk.ask("lot abcdefghijkl"), ["settled {abcdefghijkl}"])
        self.refused(NoWord, desk, "lot abcdefghijkm")
        self.refused(NoAsk, desk, "lot abcdefghijklm")

    def test_words_that_the_book_does_not_have(self):
        for line in ("lot moon", "why moon", "why moon by sun", "why wet by moon", "why wet by sun moon", "flaw moon",
                     "flaw sun moon", "camps moon", "camps sun moon", "lot by", "why by"):
            self.refused(NoWord, self.desk, line)

    def test_what_is_no_guess(self):
        for line in ("why wet by dull", "why wet by sun storm", "flaw wet", "flaw sun light", "camps rest",
                     "camps sun wet", "why sun by light", "camps storm"):
            self.refused(NotGuess, self.desk, line)

    def test_a_word_that_is_no_guess_may_be_asked_for(self):
        self.assertEqual(self.desk.ask("why light by sun"), ["yes", "light if sun"])
        self.assertEqual(self.desk.ask("lot storm"), ["never"])

    def test_no_ask_comes_ahead_of_no_word(self):
        for line in ("lot moon moon", "why moon by", "why moon with sun", "flaw moon Sun", "camps moon if",
                     "why moon by sun ", "flaw moon ", "lot moon "):
            self.refused(NoAsk, self.desk, line)

    def test_no_ask_comes_ahead_of_not_guess(self):
        for line in ("flaw wet Sun", "camps dull guess", "why wet by dull 1", "camps wet  sun"):
            self.refused(NoAsk, self.desk, line)

    def test_no_word_comes_ahead_of_not_guess(self):
        for line in ("flaw wet moon", "camps dull sun moon", "why wet by dull moon", "why moon by dull",
                     "flaw moon wet"):
            self.refused(NoWord, self.desk, line)

    def test_all_are_refusals_of_the_one_base(self):
        for line in ("x", "lot moon", "flaw wet", "drop moon", "tell "):
            with self.assertRaises(HallError):
                self.desk.ask(line)


class ManyLines(DeskTest):
    """A desk beside a plain list of rows: what the desk answers is what the functions tell of that list."""

    def made_row(self, dice):
        if dice.random() < 0.4:
            return "guess " + dice.choice(SMALL) + " unless " + dice.choice(SMALL)
        body = [dice.choice(SMALL) for _ in range(dice.choice((0, 1, 1, 2, 2, 3)))]
        row = " if ".join([dice.choice(SMALL)] + [" ".join(body)] * bool(body))
        return row + dice.choice(("",) * 12 + (" ", "\n", " if"))

    def told_kind(self, rows, row):
        """The refusal of a told row and its number, or None."""
        if not row or "\n" in row:
            return (NoRow, len(rows))
        try:
            read_book("\n".join(rows + [row]))
        except RowError as found:
            return (type(found), found.row)
        return None

    def what(self, row):
        try:
            told = read_row(row)
        except RowError:
            return None
        return told if told[0] == "guess" else ("rule", told[1], set(told[2]))

    def try_telling(self, desk, rows, row, seen):
        wanted = self.told_kind(rows, row)
        if wanted:
            self.refused_row(wanted[0], wanted[1], desk, "tell " + row)
            seen[wanted[0]] += 1
            return rows
        self.assertEqual(desk.ask("tell " + row), [])
        seen["told"] += 1
        return rows + [row]

    def try_dropping(self, desk, rows, row, seen):
        same = [kept for kept in rows if self.what(kept) == self.what(row)]
        if not same:
            self.refused(NotTold, desk, "drop " + row)
            seen[NotTold] += 1
            return rows
        self.assertEqual(desk.ask("drop " + row), [])
        seen["dropped"] += 1
        return [kept for kept in rows if kept not in same]

    def wanted_error(self, names, book, words, guesses):
        if not all(word in names for word in words + guesses):
            return NoWord
        if not all(names.index(guess) < len(book[1]) for guess in guesses):
            return NotGuess
        return None

    def try_asking(self, desk, rows, dice, seen):
        names, book = read_book("\n".join(rows))
        first = dice.choice(("lot", "why", "why", "flaw", "camps", "ranks", "book"))
        words = [dice.choice(SMALL)] if first in ("lot", "why") else []
        pool = dice.choice((SMALL, names[:len(book[1])] or SMALL))
        guesses = [dice.choice(pool) for _ in range(dice.randint(0, 3))] if first in ("why", "flaw", "camps") else []
        line = " ".join([first] + words + (["by"] if first == "why" and guesses else []) + guesses)
        wanted = self.wanted_error(names, book, words, guesses)
        if wanted:
            self.refused(wanted, desk, line)
            seen[wanted] += 1
            return
        held = mask_of([names.index(guess) for guess in guesses])
        numbers = [names.index(word) for word in words]
        self.assertEqual(desk.ask(line), getattr(self, "by_" + first)(names, book, held, *numbers), (rows, line))
        seen[first] += 1

    def by_lot(self, names, book, held, word):
        return lot(book, word).shown(names)

    def by_why(self, names, book, held, word):
        steps = way(book, held, word)
        self.assertEqual(steps is not None, yields(book, held, word))
        if steps is None:
            return ["no"]
        self.assertIsNone(way_fault(book, held, word, steps))
        return ["yes"] + [shown_rule(names, book[2][step]) for step in steps]

    def by_flaw(self, names, book, held):
        found = flaw(book, held)
        return [f"{found[0]} {names[found[1]]} {shown_set(names, found[2])}"] if found else ["stands"]

    def by_camps(self, names, book, held):
        return [shown_set(names, camp) for camp in camps(book, held)]

    def by_ranks(self, names, book, held):
        return [f"{name} {'-' if rank is None else rank}" for name, rank in zip(names, settled(book)[1])]

    def by_book(self, names, book, held):
        text = shown_book(names, book)
        return text.split("\n") if text else []

    def test_behind_any_telling_and_dropping(self):
        dice = random.Random(121)
        seen = dict.fromkeys((NoRow, Twice, Headed, NotTold, NoWord, NotGuess, "told", "dropped", "lot", "why", "flaw",
                              "camps", "ranks", "book"), 0)
        for _ in range(30):
            desk, rows = Desk(), []
            for _ in range(60):
                row = self.made_row(dice)
                chance = dice.random()
                if chance < 0.3:
                    rows = self.try_telling(desk, rows, row, seen)
                elif chance < 0.4:
                    kept = dice.choice(rows).split(" ") if rows else ["a"]
                    if "if" in kept:
                        kept = kept[:2] + dice.sample(kept[2:], len(kept) - 2)
                    rows = self.try_dropping(desk, rows, dice.choice((row, " ".join(kept), " ".join(kept))), seen)
                else:
                    self.try_asking(desk, rows, dice, seen)
        self.assertGreater(min(seen.values()), 15, seen)

    def test_lines_of_any_form(self):
        word = "(?!(guess|unless|if)(?![a-z]))[a-z]{1,12}"
        form = re.compile(f"lot {word}|why {word}( by( {word})+)?|(flaw|camps)( {word})*|ranks|book")
        dice = random.Random(123)
        firsts = ("lot", "why", "flaw", "camps", "ranks", "book")
        others = ("by", "by", "sun", "sun", "rain", "wet", "moon", "if", "", "Sun", "guess", "guessing", "sun\n")
        pieces = firsts + others
        seen = {NoAsk: 0, NoWord: 0, NotGuess: 0, None: 0}
        desk = Desk(TEXT)
        for _ in range(4000):
            named = [dice.choice(pieces) for _ in range(dice.choice((0, 1, 1, 2, 3, 4)))]
            line = " ".join([dice.choice(firsts)] + named)
            try:
                desk.ask(line)
                found = None
            except HallError as refusal:
                found = type(refusal)
            self.assertEqual(found == NoAsk, form.fullmatch(line) is None, line)
            seen[found] += 1
        self.assertGreater(min(seen.values()), 20, seen)
        self.assertEqual(desk.ask("book"), SHOWN)

    def test_the_same_as_a_new_desk_of_the_rows_kept(self):
        dice = random.Random(122)
        for _ in range(20):
            desk, rows = Desk(), []
            seen = dict.fromkeys((NoRow, Twice, Headed, NotTold, "told", "dropped"), 0)
            for _ in range(30):
                rows = self.try_telling(desk, rows, self.made_row(dice), seen)
                rows = self.try_dropping(desk, rows, self.made_row(dice), seen)
                self.assertEqual(self.state(desk), self.state(Desk("\n".join(rows))))


if __name__ == "__main__":
    unittest.main()
