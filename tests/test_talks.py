"""Points 18 to 21: talks, replies to doubts against settled guesses, doubts against what is not settled."""

import random
import unittest

from doubthall.errors import HallError, NoDoubt, NoReply, NotTurn
from doubthall.masks import mask_of
from doubthall.talks import Talk, doubt, reply
from doubthall.texts import read_book
from hallbooks import ladder, made_books, mixed_books, tower
from trial import is_reason, members, ranks_of, sets_of, settled_places, strikes

EMPTY = (0, (), ())
# Guess 1 strikes guess 0, guess 2 strikes guess 1, guess 3 strikes itself; guess 2 is struck by none.
BOOK = (5, (1, 2, 4, 3), ())
# Each of the two strikes the other.
RIVALS = (2, (1, 0), ())
LARGE = int("9" * 300)
NO_PLACES = (-1, -2, -4, 4, 5, 8, 64, 1 << 64, -(1 << 64), LARGE, -LARGE)


def strikers(book, guess):
    return [held for held in sets_of(book) if strikes(book, held, guess)]


def moves_at(book, aims):
    """All that can be named by whom the turn is, who aims at a guess of that set."""
    return [(guess, striker) for guess in members(aims) for striker in strikers(book, guess)]


def state(talk):
    return (talk.turn(), talk.now(), talk.waiting(), talk.winner(), talk.said())


class TalkTest(unittest.TestCase):
    def refused(self, kind, move, guess, striker, talk):
        before = state(talk)
        with self.assertRaises(HallError) as taken:
            move(guess, striker)
        self.assertIs(type(taken.exception), kind, (guess, striker))
        self.assertEqual(state(talk), before)


class Talks(TalkTest):
    def test_the_beginning(self):
        for held in range(1, 16):
            talk = Talk(BOOK, held)
            self.assertEqual((talk.turn(), talk.now(), talk.waiting(), talk.said()), ("doubter", held, None, []))

    def test_a_talk_that_the_speaker_wins(self):
        talk = Talk(BOOK, 0b0001)
        self.assertIsNone(talk.winner())
        self.assertIsNone(talk.doubted(0, 0b0010))
        self.assertEqual(state(talk), ("speaker", 0b0001, (0, 0b0010), None, [("doubt", 0, 0b0010)]))
        self.assertIsNone(talk.replied(1, 0b0100))
        wanted = [("doubt", 0, 0b0010), ("reply", 1, 0b0100)]
        self.assertEqual(state(talk), ("doubter", 0b0100, None, "speaker", wanted))

    def test_a_talk_that_the_doubter_wins(self):
        talk = Talk(BOOK, 0b0010)
        talk.doubted(1, 0b0100)
        self.assertEqual(state(talk), ("speaker", 0b0010, (1, 0b0100), "doubter", [("doubt", 1, 0b0100)]))

    def test_a_talk_without_end(self):
        talk = Talk(RIVALS, 0b01)
        wanted = []
        for _ in range(20):
            talk.doubted(0, 0b10)
            wanted.append(("doubt", 0, 0b10))
            self.assertEqual(state(talk), ("speaker", 0b01, (0, 0b10), None, wanted))
            talk.replied(1, 0b01)
            wanted.append(("reply", 1, 0b01))
            self.assertEqual(state(talk), ("doubter", 0b01, None, None, wanted))

    def test_nothing_held(self):
        for book in (EMPTY, BOOK, RIVALS):
            self.assertEqual(state(Talk(book, 0)), ("doubter", 0, None, "speaker", []))

    def test_the_empty_set_as_doubt_and_reply(self):
        book = (4, (2, 3), ((2, (1,)), (3, ())))
        talk = Talk(book, 0b10)
        talk.doubted(1, 0)
        self.assertEqual(state(talk), ("speaker", 0b10, (1, 0), "doubter", [("doubt", 1, 0)]))
        talk = Talk(book, 0b01)
        talk.doubted(0, 0b10)
        talk.replied(1, 0)
        self.assertEqual(state(talk), ("doubter", 0, None, "speaker", [("doubt", 0, 0b10), ("reply", 1, 0)]))

    def test_sets_need_not_be_reasons(self):
        talk = Talk(BOOK, 0b1111)
        talk.doubted(1, 0b1110)
        talk.replied(3, 0b1011)
        self.assertEqual(talk.now(), 0b1011)
        self.assertEqual(talk.said(), [("doubt", 1, 0b1110), ("reply", 3, 0b1011)])

    def test_what_was_held_before_is_given_up(self):
        talk = Talk(BOOK, 0b1011)
        talk.doubted(0, 0b0010)
        talk.replied(1, 0b0100)
        self.refused(NoDoubt, talk.doubted, 0, 0b0010, talk)
        self.refused(NoDoubt, talk.doubted, 3, 0b1000, talk)
        self.assertEqual(talk.winner(), "speaker")

    def test_a_guess_that_is_its_own_bane(self):
        talk = Talk((1, (0,), ()), 1)
        talk.doubted(0, 1)
        self.assertIsNone(talk.winner())
        talk.replied(0, 1)
        self.assertEqual(state(talk), ("doubter", 1, None, None, [("doubt", 0, 1), ("reply", 0, 1)]))

    def test_said_is_a_new_list_each_time(self):
        talk = Talk(RIVALS, 0b01)
        first = talk.said()
        first.append("x")
        self.assertEqual(talk.said(), [])
        talk.doubted(0, 0b10)
        kept = talk.said()
        talk.said().clear()
        talk.replied(1, 0b01)
        self.assertEqual(kept, [("doubt", 0, 0b10)])
        self.assertEqual(talk.said(), [("doubt", 0, 0b10), ("reply", 1, 0b01)])
        self.assertEqual(first, ["x"])
        self.assertIs(type(kept), list)

    def test_the_kinds(self):
        talk = Talk(RIVALS, 0b01)
        talk.doubted(0, 0b10)
        self.assertEqual([type(part) for part in talk.waiting()], [int, int])
        talk.replied(1, 0b01)
        self.assertIs(type(talk.now()), int)
        for move in talk.said():
            self.assertEqual([type(part) for part in (move,) + move], [tuple, str, int, int])

    def test_talks_do_not_touch_one_another(self):
        one = Talk(RIVALS, 0b01)
        other = Talk(RIVALS, 0b01)
        one.doubted(0, 0b10)
        self.assertEqual(state(other), ("doubter", 0b01, None, None, []))

    def test_of_what_was_read(self):
        names, book = read_book("guess sun unless wet\nwet if rain\nguess rain unless dry\ndry")
        self.assertEqual(names[:2], ("rain", "sun"))
        talk = Talk(book, 0b10)
        talk.doubted(1, 0b01)
        talk.replied(0, 0)
        self.assertEqual(talk.winner(), "speaker")


class Refusals(TalkTest):
    def test_the_speaker_has_not_the_turn(self):
        talk = Talk(BOOK, 0b0011)
        for guess in (0, 1, 2, 3) + NO_PLACES:
            for striker in range(16):
                self.refused(NotTurn, talk.replied, guess, striker, talk)

    def test_the_doubter_has_not_the_turn(self):
        talk = Talk(BOOK, 0b0011)
        talk.doubted(0, 0b0010)
        for guess in (0, 1, 2, 3) + NO_PLACES:
            for striker in range(16):
                self.refused(NotTurn, talk.doubted, guess, striker, talk)

    def test_no_turn_for_the_winner(self):
        talk = Talk(BOOK, 0b0010)
        talk.doubted(1, 0b0100)
        self.assertEqual(talk.winner(), "doubter")
        self.refused(NotTurn, talk.doubted, 1, 0b0100, talk)
        self.refused(NoReply, talk.replied, 2, 0b1111, talk)
        talk = Talk(BOOK, 0b0100)
        self.assertEqual(talk.winner(), "speaker")
        self.refused(NotTurn, talk.replied, 2, 0b1111, talk)
        self.refused(NoDoubt, talk.doubted, 2, 0b1111, talk)

    def test_a_doubt_against_what_is_not_held(self):
        talk = Talk(BOOK, 0b0001)
        self.refused(NoDoubt, talk.doubted, 1, 0b0100, talk)
        self.refused(NoDoubt, talk.doubted, 3, 0b1000, talk)
        for guess in NO_PLACES:
            self.refused(NoDoubt, talk.doubted, guess, 0b1111, talk)

    def test_a_doubt_by_a_set_that_does_not_yield_the_bane(self):
        talk = Talk(BOOK, 0b0111)
        for guess, striker in ((0, 0), (0, 0b1101), (1, 0b1011), (2, 0b1111)):
            self.refused(NoDoubt, talk.doubted, guess, striker, talk)
        talk.doubted(0, 0b0010)

    def test_a_reply_against_what_is_none_of_the_doubts_set(self):
        talk = Talk(BOOK, 0b1001)
        talk.doubted(0, 0b0110)
        self.refused(NoReply, talk.replied, 0, 0b0010, talk)
        self.refused(NoReply, talk.replied, 3, 0b1000, talk)
        for guess in NO_PLACES:
            self.refused(NoReply, talk.replied, guess, 0b1111, talk)

    def test_a_reply_by_a_set_that_does_not_yield_the_bane(self):
        talk = Talk(BOOK, 0b0001)
        talk.doubted(0, 0b0110)
        for guess, striker in ((1, 0), (1, 0b1011), (2, 0b1111)):
            self.refused(NoReply, talk.replied, guess, striker, talk)
        talk.replied(1, 0b0100)

    def test_no_guesses_at_all(self):
        talk = Talk(EMPTY, 0)
        for guess in (0, 1) + NO_PLACES:
            self.refused(NoDoubt, talk.doubted, guess, 0, talk)
            self.refused(NotTurn, talk.replied, guess, 0, talk)

    def test_words_that_are_no_guesses(self):
        book = (4, (2, 3), ((2, (1,)), (3, (0,))))
        talk = Talk(book, 0b11)
        for word in (2, 3):
            self.refused(NoDoubt, talk.doubted, word, 0b11, talk)
        talk.doubted(0, 0b10)
        for word in (2, 3):
            self.refused(NoReply, talk.replied, word, 0b11, talk)


class ManyTalks(TalkTest):
    def test_by_the_words_of_the_points(self):
        dice = random.Random(51)
        seen = {"moves": 0, NotTurn: 0, NoDoubt: 0, NoReply: 0, "doubter": 0, "speaker": 0}
        for book in mixed_books(52, 100, 4):
            held = dice.randrange(1 << len(book[1]))
            talk, said, waiting = Talk(book, held), [], None
            for _ in range(25):
                aims = held if waiting is None else waiting[1]
                mine, other = ("doubter", "speaker") if waiting is None else ("speaker", "doubter")
                can_name = moves_at(book, aims)
                self.assertEqual(state(talk), (mine, held, waiting, None if can_name else other, said))
                if not can_name:
                    seen[other] += 1
                guess, striker = dice.randint(-1, len(book[1])), dice.randrange(1 << len(book[1]))
                if can_name and dice.random() < 0.4:
                    guess, striker = dice.choice(can_name)
                if dice.random() < 0.2:
                    move = talk.replied if mine == "doubter" else talk.doubted
                    self.refused(NotTurn, move, guess, striker, talk)
                    seen[NotTurn] += 1
                    continue
                move, kind = (talk.doubted, NoDoubt) if mine == "doubter" else (talk.replied, NoReply)
                if (guess, striker) not in can_name:
                    self.refused(kind, move, guess, striker, talk)
                    seen[kind] += 1
                    continue
                seen["moves"] += 1
                self.assertIsNone(move(guess, striker))
                said.append(("doubt" if mine == "doubter" else "reply", guess, striker))
                if mine == "doubter":
                    waiting = (guess, striker)
                else:
                    held, waiting = striker, None
        self.assertGreater(min(seen.values()), 100, seen)


class Replies(unittest.TestCase):
    def checked(self, book, guess, striker):
        """What point 20 asks of a reply, each by itself."""
        ranks = ranks_of(book)
        told = reply(book, guess, striker)
        if ranks[guess] is None or not strikes(book, striker, guess):
            self.assertIsNone(told, (book, guess, striker))
            return None
        self.assertEqual([type(part) for part in (told,) + told], [tuple, int, int])
        self.assertIn(told[0], members(striker), (book, guess, striker))
        self.assertTrue(is_reason(book, told[1], book[1][told[0]]), (book, guess, striker, told))
        for held in members(told[1]):
            self.assertIsNotNone(ranks[held], (book, guess, striker, told))
            self.assertLess(ranks[held], ranks[guess], (book, guess, striker, told))
        return told

    def most_doubts(self, book, held):
        """How often a speaker can be doubted who replies so, over all that the doubter may name."""
        most = 0
        for guess, striker in moves_at(book, held):
            told = self.checked(book, guess, striker)
            most = max(most, 1 + self.most_doubts(book, told[1]))
        return most

    def test_a_reply(self):
        self.assertEqual(reply(BOOK, 0, 0b0010), (1, 0b0100))
        self.assertEqual(reply(BOOK, 0, 0b0011), (1, 0b0100))
        self.assertEqual(reply(BOOK, 0, 0b1010), (1, 0b0100))

    def test_none_for_what_is_no_doubt(self):
        self.assertIsNone(reply(BOOK, 0, 0))
        self.assertIsNone(reply(BOOK, 0, 0b1101))
        for striker in range(16):
            self.assertIsNone(reply(BOOK, 2, striker))

    def test_none_of_a_guess_that_is_not_settled(self):
        for striker in range(16):
            self.assertIsNone(reply(BOOK, 1, striker))
            self.assertIsNone(reply(BOOK, 3, striker))
        for striker in range(4):
            self.assertIsNone(reply(RIVALS, 0, striker))
        self.assertIsNone(reply((2, (1,), ((1, ()),)), 0, 0))

    def test_the_empty_set_as_a_reply(self):
        book = (4, (2, 3), ((2, (1,)), (3, ()), (3, (0,))))
        self.assertEqual(reply(book, 0, 0b10), (1, 0))
        self.assertEqual(reply(book, 0, 0b11), (1, 0))

    def test_no_guess_of_the_same_rank_in_a_reply(self):
        # Guess 2's bane is yielded by guess 0, of rank 1, and also by guess 1, of rank 2 like guess 4, which guess 2
        # strikes; guess 3 strikes guess 1.
        book = (8, (7, 3, 5, 0, 6), ((5, (1,)), (5, (0,)), (6, (2,))))
        self.assertEqual(ranks_of(book), (1, 2, None, None, 2))
        self.assertEqual(reply(book, 4, 0b00100), (2, 0b00001))
        self.assertEqual(reply(book, 4, 0b11111), (2, 0b00001))

    def test_a_ladder_of_ranks(self):
        book = ladder(8)
        for guess in (2, 4, 6):
            self.assertEqual(reply(book, guess, 1 << guess - 1), (guess - 1, 1 << guess - 2))
            self.assertIsNotNone(self.checked(book, guess, 255))
        for guess in (3, 5, 7):
            self.assertEqual(reply(tower(8), guess, 1 << guess - 1), (guess - 1, 1 << guess - 2))
        self.assertEqual(reply(tower(8), 1, 1), (0, 0))

    def test_a_set_is_doubted_at_most_as_often_as_its_ranks_tell(self):
        seen = {}
        for book in mixed_books(53, 150, 4) + [ladder(5), tower(4), tower(5), tower(6)]:
            ranks = ranks_of(book)
            for guess in settled_places(book):
                most = self.most_doubts(book, 1 << guess)
                self.assertLessEqual(most, ranks[guess], (book, guess))
                seen[most] = seen.get(most, 0) + 1
        self.assertGreater(min(seen[most] for most in (0, 1, 2)), 3, seen)
        self.assertIn(3, seen)

    def test_for_many_books(self):
        told = 0
        for book in mixed_books(54, 60, 5) + mixed_books(55, 15, 8) + [book for names, book in made_books(56, 8)]:
            for guess in range(len(book[1])):
                for striker in sets_of(book):
                    told += self.checked(book, guess, striker) is not None
        self.assertGreater(told, 300)

    def test_a_talk_of_as_many_doubts_as_the_rank_tells(self):
        talk = Talk(tower(8), 1 << 7)
        for guess in (7, 5, 3, 1):
            self.assertIsNone(talk.winner())
            talk.doubted(guess, 1 << guess - 1)
            talk.replied(*reply(tower(8), guess, 1 << guess - 1))
        self.assertEqual((talk.winner(), talk.now(), len(talk.said())), ("speaker", 0, 8))

    def test_talks_of_settled_guesses_are_won(self):
        dice = random.Random(57)
        longest = 0
        for book in mixed_books(58, 60, 8) + [ladder(8), tower(8)] * 5:
            ranks = ranks_of(book)
            held = mask_of(list(settled_places(book)))
            most = max([rank for rank in ranks if rank is not None], default=0)
            for _ in range(3):
                talk = Talk(book, held)
                while talk.winner() is None:
                    talk.doubted(*dice.choice(moves_at(book, talk.now())))
                    talk.replied(*reply(book, *talk.waiting()))
                self.assertEqual(talk.winner(), "speaker")
                self.assertLessEqual(len(talk.said()), 2 * most)
                longest = max(longest, len(talk.said()))
        self.assertGreaterEqual(longest, 4)


class Doubts(unittest.TestCase):
    def checked(self, book, held):
        """What point 21 asks of a doubt, each by itself."""
        firm = settled_places(book)
        told = doubt(book, held)
        if members(held) <= firm:
            self.assertIsNone(told, (book, held))
            return None
        self.assertEqual([type(part) for part in (told,) + told], [tuple, int, int])
        guess, striker = told
        self.assertIn(guess, members(held) - firm, (book, held))
        self.assertTrue(is_reason(book, striker, book[1][guess]), (book, held, told))
        for other in members(striker):
            self.assertFalse(strikes(book, sum(1 << k for k in firm), other), (book, held, told))
        return told

    def test_a_doubt(self):
        self.assertEqual(doubt(BOOK, 0b0010), (1, 0b0100))
        self.assertEqual(doubt(BOOK, 0b0111), (1, 0b0100))
        self.assertEqual(doubt(BOOK, 0b1000), (3, 0b1000))
        self.assertIn(doubt(BOOK, 0b1111), ((1, 0b0100), (3, 0b1000)))
        self.assertEqual(doubt(RIVALS, 0b01), (0, 0b10))

    def test_none_against_other_sets(self):
        for held in (0, 0b0001, 0b0100, 0b0101):
            self.assertIsNone(doubt(BOOK, held))
        self.assertIsNone(doubt(EMPTY, 0))
        self.assertIsNone(doubt(RIVALS, 0))
        self.assertIsNone(doubt(ladder(8), 0b1010101))

    def test_the_empty_set_as_a_doubt(self):
        self.assertEqual(doubt((2, (1,), ((1, ()),)), 1), (0, 0))

    def test_no_striker_that_the_settled_set_strikes(self):
        # Guess 0's bane follows from guess 1, which the settled guess 3 strikes, and from guess 2, struck by guess 0.
        book = (7, (4, 3, 0, 5), ((4, (1,)), (4, (2,))))
        self.assertEqual(ranks_of(book), (None, None, None, 1))
        self.assertEqual(doubt(book, 0b0001), (0, 0b0100))
        self.assertEqual(doubt(book, 0b1001), (0, 0b0100))

    def test_for_many_books(self):
        seen = {True: 0, False: 0}
        for book in mixed_books(59, 80, 5) + mixed_books(60, 10, 8) + [book for names, book in made_books(61, 8)]:
            for held in sets_of(book):
                seen[self.checked(book, held) is None] += 1
        self.assertGreater(min(seen.values()), 300)

    def test_every_reply_holds_a_guess_again_that_is_not_settled(self):
        replies = 0
        for book in mixed_books(62, 80, 4):
            firm = settled_places(book)
            for held in sets_of(book):
                told = self.checked(book, held)
                for guess, striker in moves_at(book, told[1]) if told else []:
                    self.assertFalse(members(striker) <= firm, (book, held, told, guess, striker))
                    replies += 1
        self.assertGreater(replies, 300)

    def test_the_doubter_never_lacks_a_doubt(self):
        dice = random.Random(63)
        seen = {None: 0, "doubter": 0}
        for book in mixed_books(64, 60, 6):
            firm = settled_places(book)
            for held in [held for held in sets_of(book) if not members(held) <= firm][:6]:
                talk = Talk(book, held)
                for _ in range(12):
                    talk.doubted(*doubt(book, talk.now()))
                    if talk.winner():
                        break
                    talk.replied(*dice.choice(moves_at(book, talk.waiting()[1])))
                seen[talk.winner()] += 1
        self.assertGreater(min(seen.values()), 20, seen)


if __name__ == "__main__":
    unittest.main()
