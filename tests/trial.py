"""Points 9 to 17 word by word, by trying all sets of guesses; nothing here asks the package."""

import functools


def members(mask):
    return {k for k in range(mask.bit_length()) if mask >> k & 1}


def sets_of(book):
    return range(1 << len(book[1]))


@functools.lru_cache(maxsize=None)
def words_from(book, held):
    words = members(held)
    while True:
        more = {head for head, body in book[2] if words.issuperset(body)} - words
        if not more:
            return frozenset(words)
        words |= more


def yields(book, held, word):
    return word in words_from(book, held)


def is_reason(book, held, word):
    smaller = [other for other in sets_of(book) if other != held and other & held == other]
    return yields(book, held, word) and not any(yields(book, other, word) for other in smaller)


def all_reasons(book, word):
    return [held for held in sets_of(book) if is_reason(book, held, word)]


def strikes(book, held, guess):
    return yields(book, held, book[1][guess])


def all_struck(book, held):
    return {guess for guess in range(len(book[1])) if strikes(book, held, guess)}


def has_peace(book, held):
    return not any(strikes(book, held, guess) for guess in members(held))


def defends(book, held, guess):
    own = all_struck(book, held)
    return all(members(other) & own for other in sets_of(book) if strikes(book, other, guess))


def all_defended(book, held):
    return {guess for guess in range(len(book[1])) if defends(book, held, guess)}


def does_stand(book, held):
    return has_peace(book, held) and all(defends(book, held, guess) for guess in members(held))


@functools.lru_cache(maxsize=None)
def ranks_of(book):
    ranks = [None] * len(book[1])
    held = 0
    for number in range(1, len(book[1]) + 2):
        brought = all_defended(book, held)
        if brought == members(held):
            return tuple(ranks)
        for guess in brought - members(held):
            ranks[guess] = number
        held = sum(1 << guess for guess in brought)
    raise AssertionError("rounds without end")


def settled_places(book):
    return {guess for guess, rank in enumerate(ranks_of(book)) if rank is not None}
