"""Points 5, 6 and 7: texts of books, read and shown."""

import random
import re
import unittest

from doubthall.errors import Headed, NoRow, RowError, TooMany, Twice
from doubthall.texts import read_book, shown_book, shown_rule
from hallbooks import made_books

WEATHER = "\n".join((
    "wet if rain",
    "guess sun unless wet",
    "rain if sun cloud bird",
    "guess bird unless sun",
    "cloud",
))
LETTERS = "abcdefghijklmnopqrstuvwxyz"


def guess_rows(count, bane="b"):
    return [f"guess g{LETTERS[k]} unless {bane}" for k in range(count)]


def rule_rows(count):
    """As many unlike rules, over few words."""
    words = [letter + "w" for letter in LETTERS[:7]]
    return [f"{head} if {word}" for head in words for word in words][:count]


def word_rows(count):
    """As many rows as words, each rule from nothing."""
    return ["q" + LETTERS[k // 26] + LETTERS[k % 26] for k in range(count)]


class BookTest(unittest.TestCase):
    def refused(self, kind, row, rows):
        text = rows if isinstance(rows, str) else "\n".join(rows)
        with self.assertRaises(RowError) as taken:
            read_book(text)
        self.assertEqual((type(taken.exception), taken.exception.row), (kind, row), text)
        self.assertIs(type(taken.exception.row), int)


class BooksThatAreRead(BookTest):
    def test_the_empty_text(self):
        self.assertEqual(read_book(""), ((), (0, (), ())))

    def test_words_are_numbered_the_guesses_first(self):
        names, book = read_book(WEATHER)
        self.assertEqual(names, ("bird", "sun", "cloud", "rain", "wet"))
        self.assertEqual(book, (5, (1, 4), ((4, (3,)), (3, (0, 1, 2)), (2, ()))))

    def test_guesses_come_first_also_where_their_names_come_last(self):
        names, book = read_book("guess zz unless a\nguess zy unless zz\na if b")
        self.assertEqual(names, ("zy", "zz", "a", "b"))
        self.assertEqual(book, (4, (1, 2), ((2, (3,)),)))

    def test_names_are_ordered_as_texts(self):
        names, book = read_book("b\nab\na\nabc\nguess bb unless bb\nguess ba unless b")
        self.assertEqual(names, ("ba", "bb", "a", "ab", "abc", "b"))
        self.assertEqual(book, (6, (5, 1), ((5, ()), (3, ()), (2, ()), (4, ()))))

    def test_bodies_rise_by_numbers(self):
        names, book = read_book("h if z a g f\nguess g unless h\nguess f unless h")
        self.assertEqual(names, ("f", "g", "a", "h", "z"))
        self.assertEqual(book[2], ((3, (0, 1, 2, 4)),))

    def test_rules_stay_in_the_order_of_their_rows(self):
        rules = read_book("z\nm if z\na if m\nm\nz if a")[1][2]
        self.assertEqual(rules, ((2, ()), (1, (2,)), (0, (1,)), (1, ()), (2, (0,))))

    def test_words_of_banes_and_bodies_need_no_rule(self):
        self.assertEqual(read_book("guess g unless b"), (("g", "b"), (2, (1,), ())))
        self.assertEqual(read_book("a if b"), (("a", "b"), (2, (), ((0, (1,)),))))
        self.assertEqual(read_book("guess g unless g"), (("g",), (1, (0,), ())))
        self.assertEqual(read_book("a if a"), (("a",), (1, (), ((0, (0,)),))))

    def test_the_kinds(self):
        for text in ("", "a", WEATHER):
            told = read_book(text)
            names, book = told
            many, banes, rules = book
            for value in [told, names, book, banes, rules] + list(rules) + [body for head, body in rules]:
                self.assertIs(type(value), tuple)
            numbers = [many] + list(banes) + [head for head, body in rules]
            for number in numbers + [word for head, body in rules for word in body]:
                self.assertIs(type(number), int)
            for name in names:
                self.assertIs(type(name), str)

    def test_like_heads_and_like_bodies_are_no_like_rules(self):
        for text in ("a if b\na if b c", "a if b\nc if b", "a\na if a", "a if b\nb if a", "a if b c\na if b d"):
            self.assertEqual(len(read_book(text)[1][2]), 2)


class RowsAtFault(BookTest):
    def test_no_row(self):
        self.refused(NoRow, 0, "a if")
        self.refused(NoRow, 0, " ")
        self.refused(NoRow, 1, ["a", "b if ", "c"])
        self.refused(NoRow, 2, ["a", "guess g unless b", "guess h unless"])
        self.refused(NoRow, 2, ["a", "b", "abcdefghijklm"])
        self.refused(NoRow, 1, ["a", "if"])

    def test_an_empty_row(self):
        self.refused(NoRow, 0, "\n")
        self.refused(NoRow, 0, "\na")
        self.refused(NoRow, 1, "a\n")
        self.refused(NoRow, 1, "a\n\nb")
        self.refused(NoRow, 2, WEATHER.split("\n")[:2] + [""])

    def test_more_than_six_behind_if(self):
        self.refused(TooMany, 0, "a if b c d e f g h")
        self.refused(TooMany, 1, ["a", "a if b c d e f g b", "a"])

    def test_a_word_twice_behind_if(self):
        self.refused(Twice, 1, ["a", "a if b c b", "if"])

    def test_a_guess_told_again(self):
        self.refused(Twice, 1, ["guess g unless b", "guess g unless b"])
        self.refused(Twice, 2, ["guess g unless b", "a", "guess g unless c"])
        self.refused(Twice, 1, ["guess g unless b", "guess g unless g"])

    def test_a_rule_told_again(self):
        self.refused(Twice, 1, ["a", "a"])
        self.refused(Twice, 2, ["a if b", "guess g unless a", "a if b"])
        self.refused(Twice, 1, ["a if b c", "a if c b"])
        self.refused(Twice, 1, ["a if b c d e f g", "a if g f e d c b"])
        self.refused(Twice, 1, ["a if a b", "a if b a"])

    def test_the_ninth_guess_row(self):
        self.assertEqual(len(read_book("\n".join(guess_rows(8)))[1][1]), 8)
        self.refused(TooMany, 8, guess_rows(9))
        self.refused(TooMany, 8, guess_rows(10))
        self.refused(TooMany, 10, guess_rows(4) + ["a", "c"] + guess_rows(9)[4:])

    def test_the_41st_rule_row(self):
        self.assertEqual(len(read_book("\n".join(rule_rows(40)))[1][2]), 40)
        self.refused(TooMany, 40, rule_rows(41))
        self.refused(TooMany, 42, ["guess g unless b", "guess h unless b"] + rule_rows(41))
        self.assertEqual(len(read_book("\n".join(rule_rows(40) + guess_rows(8)))[1][2]), 40)

    def test_the_31st_word(self):
        self.assertEqual(read_book("\n".join(word_rows(30)))[1][0], 30)
        self.refused(TooMany, 30, word_rows(31))
        self.refused(TooMany, 29, word_rows(29) + ["a if b"])
        self.refused(TooMany, 29, word_rows(29) + ["guess a unless b"])
        self.refused(TooMany, 30, word_rows(30) + ["guess qaa unless b"])
        self.refused(TooMany, 30, word_rows(30) + ["qaa if qab b"])
        self.assertEqual(read_book("\n".join(word_rows(30) + ["qaa if qab"]))[1][0], 30)
        self.assertEqual(read_book("\n".join(word_rows(29) + ["qaa if b"]))[1][0], 30)
        self.assertEqual(read_book("\n".join(word_rows(29) + ["guess b unless qaa"]))[1][0], 30)
        self.assertEqual(read_book("\n".join(guess_rows(8) + word_rows(21)))[1][0], 30)
        self.refused(TooMany, 29, guess_rows(8) + word_rows(22))

    def test_a_full_book(self):
        rows = guess_rows(8, "aw") + rule_rows(40 - 3)
        rows += ["aw if " + " ".join(word_rows(6)), "aw if " + " ".join(word_rows(15)[9:])]
        rows += ["bw if " + " ".join(word_rows(12)[6:])]
        names, book = read_book("\n".join(rows))
        self.assertEqual((len(names), book[0], len(book[1]), len(book[2])), (30, 30, 8, 40))
        self.refused(TooMany, 48, rows + ["guess b unless b"])
        self.refused(TooMany, 48, rows + ["aw"])

    def test_which_fault_of_a_row_comes_first(self):
        self.refused(NoRow, 8, guess_rows(8) + ["guess ga unless"])
        self.refused(NoRow, 40, rule_rows(40) + ["aw if "])
        self.refused(NoRow, 30, word_rows(30) + ["a if b c d e f g H"])
        self.refused(TooMany, 0, ["a if b b c d e f g"])
        self.refused(Twice, 30, word_rows(30) + ["a if b b"])
        self.refused(Twice, 40, rule_rows(40) + ["a if b b"])
        self.refused(Twice, 8, guess_rows(8) + ["guess ga unless b"])
        self.refused(Twice, 8, guess_rows(8) + ["guess ga unless c"])
        self.refused(Twice, 40, rule_rows(40) + ["aw if aw"])
        self.refused(Twice, 30, ["guess g unless g"] + word_rows(29) + ["guess g unless b"])

    def test_which_row_comes_first(self):
        self.refused(Twice, 1, ["a", "a", "a if", "a if b b"])
        self.refused(NoRow, 1, ["a", "if", "a"])
        self.refused(TooMany, 30, word_rows(31) + ["a if"])
        self.refused(Twice, 2, ["guess g unless b", "a", "a", "a if b c d e f g h"])

    def test_headed(self):
        self.refused(Headed, 1, ["guess g unless b", "g"])
        self.refused(Headed, 0, ["g if a", "guess g unless b"])
        self.refused(Headed, 0, ["g if g", "guess g unless g"])
        self.refused(Headed, 2, ["a if g", "guess g unless a", "g if a"])
        self.refused(Headed, 0, ["h", "g", "guess g unless b", "guess h unless b"])
        self.refused(Headed, 1, ["guess h unless b", "g", "h", "guess g unless b"])

    def test_headed_only_when_no_row_is_otherwise_at_fault(self):
        self.refused(NoRow, 2, ["g", "guess g unless b", "a if"])
        self.refused(NoRow, 2, ["g", "guess g unless b", ""])
        self.refused(Twice, 2, ["guess g unless b", "g", "guess g unless c"])
        self.refused(Twice, 2, ["g", "guess g unless b", "g"])
        self.refused(Twice, 2, ["guess g unless b", "g", "a if b b"])
        self.refused(TooMany, 2, ["guess g unless b", "g", "a if b c d e f g h"])
        self.refused(TooMany, 9, ["ga"] + guess_rows(9))

    def test_a_guess_among_bodies_and_banes_is_not_headed(self):
        self.assertEqual(read_book("guess g unless g\na if g")[1], (2, (0,), ((1, (0,)),)))


class BooksThatAreShown(unittest.TestCase):
    def test_a_book(self):
        names, book = read_book(WEATHER)
        wanted = ("guess bird unless sun", "guess sun unless wet", "wet if rain", "rain if bird sun cloud", "cloud")
        self.assertEqual(shown_book(names, book), "\n".join(wanted))

    def test_the_empty_book(self):
        self.assertEqual(shown_book((), (0, (), ())), "")

    def test_one_row(self):
        self.assertEqual(shown_book(("g",), (1, (0,), ())), "guess g unless g")
        self.assertEqual(shown_book(("a",), (1, (), ((0, ()),))), "a")

    def test_words_that_stand_in_no_row_are_not_shown(self):
        self.assertEqual(shown_book(("a", "b"), (2, (), ())), "")
        self.assertEqual(shown_book(("g", "a", "b", "c"), (4, (2,), ((2, (0,)),))), "guess g unless b\nb if g")

    def test_a_rule(self):
        names = ("sun", "ash", "rain")
        self.assertEqual(shown_rule(names, (1, ())), "ash")
        self.assertEqual(shown_rule(names, (2, (0,))), "rain if sun")
        self.assertEqual(shown_rule(names, (1, (0, 1, 2))), "ash if sun ash rain")
        names = ("a", "b", "c", "d", "e", "f", "g")
        self.assertEqual(shown_rule(names, (6, (0, 1, 2, 3, 4, 5))), "g if a b c d e f")

    def test_what_was_read_is_shown_and_read_as_the_same(self):
        for names, book in made_books(7, 200):
            rows = shown_book(names, book).split("\n")
            random.Random(len(rows)).shuffle(rows)
            told = read_book("\n".join(rows))
            shown = shown_book(*told)
            self.assertEqual(read_book(shown), told)
            self.assertEqual(shown_book(*read_book(shown)), shown)

    def test_a_made_book_without_idle_words_comes_back(self):
        seen = 0
        for names, book in made_books(8, 300, most_others=6):
            used = set(range(len(book[1]))) | set(book[1])
            for head, body in book[2]:
                used |= {head} | set(body)
            if len(used) == book[0]:
                seen += 1
                self.assertEqual(read_book(shown_book(names, book)), (names, book))
        self.assertGreater(seen, 50)


class ByAnotherReader(unittest.TestCase):
    """The same texts through a reader that is written another way, straight along points 5 and 6."""

    WORD = "(?!(?:guess|unless|if)(?![a-z]))[a-z]{1,12}"

    def fault_of_row(self, line, banes, rules, words):
        guess = re.fullmatch(f"guess ({self.WORD}) unless ({self.WORD})", line)
        rule = re.fullmatch(f"({self.WORD})(?: if ({self.WORD}(?: {self.WORD})*))?", line)
        if not guess and not rule:
            return NoRow
        body = rule[2].split(" ") if rule and rule[2] else []
        if len(body) > 6:
            return TooMany
        if any(body.count(word) > 1 for word in body):
            return Twice
        if guess and guess[1] in banes or rule and (rule[1], frozenset(body)) in rules:
            return Twice
        if guess:
            banes[guess[1]] = guess[2]
            words |= {guess[1], guess[2]}
        else:
            rules.append((rule[1], frozenset(body)))
            words |= {rule[1], *body}
        return TooMany if len(banes) > 8 or len(rules) > 40 or len(words) > 30 else None

    def wanted(self, text):
        banes, rules, words = {}, [], set()
        lines = text.split("\n") if text else []
        for number, line in enumerate(lines):
            fault = self.fault_of_row(line, banes, rules, words)
            if fault:
                return (fault, number)
        for number, line in enumerate(lines):
            if line.split(" ")[0] in banes:
                return (Headed, number)
        names = sorted(words, key=lambda word: (word not in banes, word))
        numbered = [(names.index(head), tuple(k for k in range(len(names)) if names[k] in body)) for head, body in rules]
        in_order = tuple(names.index(banes[name]) for name in names if name in banes)
        return (tuple(names), (len(names), in_order, tuple(numbered)))

    def made_row(self, dice, pool):
        bad = ("if", "unless", "guess", "", "A", "a" * 13, "a\n")
        third = len(pool) // 3
        if dice.random() < 0.15:
            row = ["guess", dice.choice(pool[:third]), "unless", dice.choice(pool)]
        else:
            heads = pool if dice.random() < 0.3 else pool[third:]
            size = dice.choice((0, 1, 2, 3, 4)) if dice.random() < 0.97 else dice.choice((5, 6, 7))
            body = dice.sample(pool, min(size, len(pool)))
            if dice.random() < 0.02:
                body = [dice.choice(pool) for _ in range(size)]
            row = [dice.choice(heads)] + (["if"] + body if body else [])
        if dice.random() < 0.01:
            row[dice.randrange(len(row))] = dice.choice(bad)
        return " ".join(row)

    def made_text(self, dice):
        pool = dice.sample(word_rows(40), dice.choice((3, 6, 12, 40)))
        return "\n".join(self.made_row(dice, pool) for _ in range(dice.choice((0, 1, 2, 4, 8, 30, 50))))

    def told(self, text):
        try:
            return read_book(text)
        except RowError as refusal:
            return (type(refusal), refusal.row)

    def test_the_same_is_read_and_refused(self):
        dice = random.Random(11)
        seen = {NoRow: 0, TooMany: 0, Twice: 0, Headed: 0, "read": 0}
        for _ in range(3000):
            text = self.made_text(dice)
            wanted = self.wanted(text)
            self.assertEqual(self.told(text), wanted, text)
            seen["read" if isinstance(wanted[0], tuple) else wanted[0]] += 1
        self.assertGreater(min(seen.values()), 30, seen)


if __name__ == "__main__":
    unittest.main()
