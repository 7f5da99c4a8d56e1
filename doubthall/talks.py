"""Talks between a speaker, who holds guesses, and a doubter; replies for settled guesses, doubts against others."""

from doubthall.errors import NoDoubt, NoReply, NotTurn
from doubthall.masks import places
from doubthall.reasons import all_guesses
from doubthall.settled import rank_in, rounds
from doubthall.standing import first_strike, struck, unstruck


def reply(book, guess, striker):
    if guess not in places(struck(book, striker)):
        return None
    sets = rounds(book)
    rank = rank_in(sets, guess)
    if rank is None:
        return None
    # The round before brought the guess because it strikes into each set that yields the guess's bane.
    below = sets[rank - 1]
    return first_strike(book, striker & struck(book, below), below)


def doubt(book, held):
    last = rounds(book)[-1]
    loose = held & ~last
    if not loose:
        return None
    # The last round does not defend a loose guess, so what it leaves unstruck yields the guess's bane.
    return first_strike(book, loose, unstruck(book, last))


class Talk:
    def __init__(self, book, held):
        self.book = book
        self.held = held
        self.unanswered = None
        self.moves = []

    def turn(self):
        return "doubter" if self.unanswered is None else "speaker"

    def now(self):
        return self.held

    def waiting(self):
        return self.unanswered

    def winner(self):
        # What all guesses together do not strike, no set does.
        if self.aims() & struck(self.book, all_guesses(self.book)):
            return None
        return "speaker" if self.turn() == "doubter" else "doubter"

    def said(self):
        return list(self.moves)

    def aims(self):
        return self.held if self.unanswered is None else self.unanswered[1]

    def can_name(self, guess, striker):
        # Looked up among the places, as a number of any size or below nought may be named.
        return guess in places(self.aims() & struck(self.book, striker))

    def doubted(self, guess, striker):
        if self.turn() != "doubter":
            raise NotTurn("the speaker has the turn")
        if not self.can_name(guess, striker):
            raise NoDoubt("the guess is not held now, or the set does not yield its bane")
        self.unanswered = (guess, striker)
        self.moves.append(("doubt", guess, striker))

    def replied(self, guess, striker):
        if self.turn() != "speaker":
            raise NotTurn("the doubter has the turn")
        if not self.can_name(guess, striker):
            raise NoReply("the guess is none of the doubt's set, or the named set does not yield its bane")
        self.held = striker
        self.unanswered = None
        self.moves.append(("reply", guess, striker))
