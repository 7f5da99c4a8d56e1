"""Points 1, 2 and 3: what holds over the whole program."""

import copy
import random
import unittest

from doubthall.camps import camps, full
from doubthall.desk import Desk
from doubthall.lots import Maybe, Never, Settled, Sure, lot
from doubthall.masks import inside, mask_of, many, places, shown_set
from doubthall.reasons import a_reason, reasons
from doubthall.sayings import labels, sayings, strikes
from doubthall.settled import settled
from doubthall.standing import at_peace, defended, flaw, stands, struck
from doubthall.talks import Talk, doubt, reply
from doubthall.texts import read_book, read_row, shown_book, shown_rule
from doubthall.yields import way, way_fault, yielded
from hallbooks import ladder, made_book, made_books, mixed_books, ring, rival_book, rival_books, tower

BOOKS = (mixed_books(131, 40, 5) + rival_books(132, 40, 5) + [book for names, book in made_books(133, 10)]
         + [ladder(8), tower(8), ring(2), ring(3), (0, (), ()), (1, (), ()), (1, (0,), ())])


def yielding_sets(found):
    """The sets of guesses that a lot tells, each of which yields the word."""
    if isinstance(found, Settled):
        return [found.reason]
    if isinstance(found, Sure):
        return [mask for pair in found.pairs for mask in pair]
    return [found.camp, found.reason] if isinstance(found, Maybe) else []


class ThePromise(unittest.TestCase):
    def test_each_word_has_just_one_of_four_lots(self):
        seen = {"settled": 0, "sure": 0, "maybe": 0, "never": 0}
        for book in BOOKS:
            told, firm = camps(book), settled(book)[0]
            for word in range(book[0]):
                yielding = [camp for camp in told if inside(1 << word, yielded(book, camp))]
                truths = {
                    "settled": inside(1 << word, yielded(book, firm)),
                    "sure": yielding == list(told) and not inside(1 << word, yielded(book, firm)),
                    "maybe": 0 < len(yielding) < len(told),
                    "never": not yielding,
                }
                self.assertEqual([name for name, truth in truths.items() if truth], [lot(book, word).called()])
                seen[lot(book, word).called()] += 1
        self.assertGreater(min(seen.values()), 20, seen)

    def test_a_way_leads_from_what_a_lot_tells_to_the_word(self):
        for book in BOOKS:
            for word in range(book[0]):
                found = lot(book, word)
                self.assertEqual(isinstance(found, Never), not yielding_sets(found))
                for held in yielding_sets(found):
                    steps = way(book, held, word)
                    self.assertIsNone(way_fault(book, held, word, steps), (book, word, held))
                if isinstance(found, Maybe):
                    self.assertIsNone(way(book, found.other, word))

    def test_no_doubter_has_more_doubts_than_the_rank_tells(self):
        dice = random.Random(134)
        talks = 0
        for book in BOOKS:
            ranks = settled(book)[1]
            for word in range(book[0]):
                found = lot(book, word)
                if not isinstance(found, Settled) or not found.reason:
                    continue
                talk, left = Talk(book, found.reason), max(ranks[guess] for guess in places(found.reason))
                while talk.winner() is None:
                    aims = [guess for guess in places(talk.now()) if reasons(book, book[1][guess])]
                    guess = dice.choice(aims)
                    talk.doubted(guess, dice.choice(reasons(book, book[1][guess])))
                    talk.replied(*reply(book, *talk.waiting()))
                    left -= 1
                    self.assertGreaterEqual(left, 0)
                    self.assertLessEqual(max([ranks[guess] for guess in places(talk.now())], default=0), left)
                self.assertEqual(talk.winner(), "speaker")
                talks += len(talk.said()) > 0
        self.assertGreater(talks, 10)

    def test_against_what_is_not_settled_doubts_never_end(self):
        dice = random.Random(135)
        ends = {"doubter": 0, None: 0}
        for book in BOOKS:
            for camp in camps(book):
                if inside(camp, settled(book)[0]):
                    self.assertIsNone(doubt(book, camp))
                    continue
                talk = Talk(book, camp)
                for _ in range(10):
                    talk.doubted(*doubt(book, talk.now()))
                    if talk.winner():
                        break
                    aims = [guess for guess in places(talk.waiting()[1]) if reasons(book, book[1][guess])]
                    guess = dice.choice(aims)
                    talk.replied(guess, dice.choice(reasons(book, book[1][guess])))
                self.assertNotEqual(talk.winner(), "speaker")
                ends[talk.winner()] += 1
        self.assertGreater(ends[None], 20)

    def test_sets_that_stand_and_sets_with_a_flaw(self):
        for book in BOOKS:
            told = camps(book)
            for held in range(0, 1 << len(book[1]), 1 if len(book[1]) < 7 else 5):
                if stands(book, held):
                    self.assertIsNone(flaw(book, held))
                    self.assertTrue([camp for camp in told if inside(held, camp)])
                    continue
                kind, guess, striker = flaw(book, held)
                self.assertTrue(inside(1 << guess, held))
                self.assertTrue(inside(1 << guess, struck(book, striker)))
                if kind == "torn":
                    self.assertTrue(inside(striker, held))
                else:
                    self.assertTrue(at_peace(book, held))
                    self.assertEqual(striker & struck(book, held), 0)

    def test_by_sets_and_by_sayings_the_same_is_settled(self):
        for book in BOOKS:
            won = {word for (reason, word), label in zip(sayings(book), labels(book)) if label == "in"}
            self.assertEqual({word for word in range(book[0]) if lot(book, word).called() == "settled"}, won, book)


class Handed(unittest.TestCase):
    def test_nothing_that_is_handed_in_is_changed(self):
        row = [3, 1, 3, 0]
        mask_of(row)
        self.assertEqual(row, [3, 1, 3, 0])
        dice = random.Random(136)
        for names, book in [made_book(dice, 4) for _ in range(5)] + [rival_book(dice, 4) for _ in range(5)]:
            before = copy.deepcopy((names, book))
            for word in range(book[0]):
                lot(book, word).shown(names)
                way(book, 0, word)
            camps(book, 1)
            full(book)
            labels(book)
            shown_book(names, book)
            self.assertEqual((names, book), before)

    def test_every_list_that_is_told_is_a_new_one(self):
        names, book = read_book("guess sun unless rain\nguess rain unless sun\nlight if sun\nlight if rain\ndull")
        talk, desk = Talk(book, 1), Desk(shown_book(names, book))
        askers = [lambda: places(5), talk.said]
        askers += [lambda word=word: lot(book, word).shown(names) for word in range(book[0])]
        lines = ("book", "ranks", "camps", "flaw", "lot dull", "why dull")
        askers += [lambda line=line: desk.ask(line) for line in lines]
        for ask in askers:
            first = ask()
            kept = list(first)
            self.assertIs(type(first), list)
            first.append("x")
            first.reverse()
            self.assertEqual(ask(), kept)

    def test_what_is_told_does_not_hang_on_what_was_asked_before(self):
        dice = random.Random(137)
        asked = [(book, word) for book in BOOKS[:30] for word in range(book[0])]
        first = {key: (lot(*key).called(), reasons(*key)) for key in asked}
        dice.shuffle(asked)
        for key in asked:
            self.assertEqual((lot(*key).called(), reasons(*key)), first[key])


class Kinds(unittest.TestCase):
    def test_whole_numbers_are_no_truths(self):
        for book in BOOKS:
            everything = (1 << len(book[1])) - 1
            numbers = [yielded(book, everything), struck(book, everything), defended(book, everything),
                       settled(book)[0], many(everything)]
            numbers += list(camps(book)) + list(full(book)) + places(everything)
            numbers += [rank for rank in settled(book)[1] if rank is not None]
            numbers += [part for saying in sayings(book) for part in saying]
            numbers += [part for part in flaw(book, everything) or () if not isinstance(part, str)]
            numbers += list(doubt(book, everything) or ())
            for word in range(book[0]):
                numbers += list(reasons(book, word)) + yielding_sets(lot(book, word)) + [lot(book, word).word]
                numbers += list(way(book, everything, word) or ())
            self.assertEqual({type(number) for number in numbers} - {int}, set(), book)

    def test_truths_are_truths(self):
        for book in BOOKS:
            everything = (1 << len(book[1])) - 1
            told = [stands(book, everything), at_peace(book, everything), inside(0, everything)]
            told += [strikes(book, one, one) for one in sayings(book)]
            self.assertEqual({type(truth) for truth in told}, {bool})


class Orders(unittest.TestCase):
    def test_the_order_of_the_rows_changes_no_lot(self):
        dice = random.Random(138)
        for _ in range(20):
            rows = shown_book(*rival_book(dice, 5)).split("\n")
            names, book = read_book("\n".join(rows))
            dice.shuffle(rows)
            again, other = read_book("\n".join(rows))
            self.assertEqual(again, names)
            self.assertEqual((camps(other), full(other), settled(other)), (camps(book), full(book), settled(book)))
            self.assertEqual((sayings(other), labels(other)), (sayings(book), labels(book)))
            for word in range(book[0]):
                self.assertEqual(lot(other, word).called(), lot(book, word).called())

    def test_what_is_shown_is_read_again(self):
        for names, book in made_books(139, 20):
            read = read_book(shown_book(names, book))
            self.assertEqual(read_book(shown_book(*read)), read)
            desk = Desk(shown_book(*read))
            self.assertEqual("\n".join(desk.ask("book")), shown_book(*read))
            for rule in read[1][2]:
                row = shown_rule(read[0], rule)
                self.assertEqual(read_row(row)[:2], ("rule", read[0][rule[0]]))

    def test_one_reason_is_one_of_all(self):
        for book in BOOKS[:60]:
            everything = (1 << len(book[1])) - 1
            for word in range(book[0]):
                found = a_reason(book, everything, word)
                if found is None:
                    self.assertEqual(reasons(book, word), ())
                else:
                    self.assertIn(found, reasons(book, word))

    def test_a_desk_and_the_functions_tell_the_same(self):
        dice = random.Random(140)
        for _ in range(20):
            names, book = read_book(shown_book(*rival_book(dice, 5)))
            desk = Desk(shown_book(names, book))
            self.assertEqual(desk.ask("camps"), [shown_set(names, camp) for camp in camps(book)])
            for word, name in enumerate(names):
                self.assertEqual(desk.ask("lot " + name), lot(book, word).shown(names))


if __name__ == "__main__":
    unittest.main()
