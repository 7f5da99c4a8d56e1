"""The camps, which are the sets that stand and lie in no other one that does, and the full sets."""

from doubthall.masks import inside
from doubthall.reasons import all_guesses
from doubthall.standing import stands, unstruck


def camps(book, holding=0):
    found = []
    # Masks fall, so every larger set around a set is tried ahead of it.
    for held in range(all_guesses(book), -1, -1):
        in_another = any([inside(held, camp) for camp in found])
        if not in_another and stands(book, held):
            found.append(held)
    return tuple([camp for camp in reversed(found) if inside(holding, camp)])


def full(book):
    # At peace and striking all others, a set leaves just its own guesses unstruck.
    return tuple([held for held in range(all_guesses(book) + 1) if unstruck(book, held) == held])
