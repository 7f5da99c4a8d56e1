"""The reasons of a word: the sets of guesses that yield it, where no smaller set within them does."""

from doubthall.masks import inside, places
from doubthall.yields import yielded


def all_guesses(book):
    return (1 << len(book[1])) - 1


def does_yield(book, held, word):
    return inside(1 << word, yielded(book, held))


def yielded_by_each(book):
    return [yielded(book, held) for held in range(all_guesses(book) + 1)]


def least_yielding(known, word):
    found = []
    # Masks rise, so every smaller set within a set is looked at ahead of it.
    for held, words in enumerate(known):
        if inside(1 << word, words) and not any([inside(reason, held) for reason in found]):
            found.append(held)
    return tuple(found)


def reasons(book, word):
    return least_yielding(yielded_by_each(book), word)


def a_reason(book, within, word):
    if not does_yield(book, within, word):
        return None
    reason = within
    # A guess that could not be spared once can't be spared later either, as a smaller set yields no more.
    for guess in places(within):
        smaller = reason & ~(1 << guess)
        if does_yield(book, smaller, word):
            reason = smaller
    return reason
