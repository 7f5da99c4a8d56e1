"""The settled set, which comes in rounds, and the rank of each guess in it."""

from doubthall.masks import inside
from doubthall.standing import defended


def rounds(book):
    held = 0
    sets = [held]
    while defended(book, held) != held:
        held = defended(book, held)
        sets.append(held)
    return sets


def rank_in(sets, guess):
    for number, held in enumerate(sets):
        if inside(1 << guess, held):
            return number
    return None


def settled(book):
    sets = rounds(book)
    ranks = [rank_in(sets, guess) for guess in range(len(book[1]))]
    return (sets[-1], tuple(ranks))
