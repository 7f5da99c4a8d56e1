"""Points 9 to 17 and 22 to 29 word by word, by trying all sets of guesses; nothing here asks the package."""

import functools


def members(mask):
    return {k for k in range(mask.bit_length()) if mask >> k & 1}


def sets_of(book):
    return range(1 << len(book[1]))


@functools.lru_cache(maxsize=None)
def words_from(book, held):
    words = members(held)
    while True:
        more = {head for head, body in book[2] if words.issuperset(body)} - words
        if not more:
            return frozenset(words)
        words |= more


def yields(book, held, word):
    return word in words_from(book, held)


def is_reason(book, held, word):
    smaller = [other for other in sets_of(book) if other != held and other & held == other]
    return yields(book, held, word) and not any(yields(book, other, word) for other in smaller)


def all_reasons(book, word):
    return [held for held in sets_of(book) if is_reason(book, held, word)]


def strikes(book, held, guess):
    return yields(book, held, book[1][guess])


def all_struck(book, held):
    return {guess for guess in range(len(book[1])) if strikes(book, held, guess)}


def has_peace(book, held):
    return not any(strikes(book, held, guess) for guess in members(held))


def defends(book, held, guess):
    own = all_struck(book, held)
    return all(members(other) & own for other in sets_of(book) if strikes(book, other, guess))


def all_defended(book, held):
    return {guess for guess in range(len(book[1])) if defends(book, held, guess)}


def does_stand(book, held):
    return has_peace(book, held) and all(defends(book, held, guess) for guess in members(held))


@functools.lru_cache(maxsize=None)
def ranks_of(book):
    ranks = [None] * len(book[1])
    held = 0
    for number in range(1, len(book[1]) + 2):
        brought = all_defended(book, held)
        if brought == members(held):
            return tuple(ranks)
        for guess in brought - members(held):
            ranks[guess] = number
        held = sum(1 << guess for guess in brought)
    raise AssertionError("rounds without end")


def settled_places(book):
    return {guess for guess, rank in enumerate(ranks_of(book)) if rank is not None}


def settled_set(book):
    return sum(1 << guess for guess in settled_places(book))


@functools.lru_cache(maxsize=None)
def all_camps(book):
    standing = [held for held in sets_of(book) if does_stand(book, held)]
    return tuple(held for held in standing
                 if not any(other != held and members(held) <= members(other) for other in standing))


def all_full(book):
    guesses = set(range(len(book[1])))
    return tuple(held for held in sets_of(book)
                 if has_peace(book, held) and guesses - members(held) <= all_struck(book, held))


def lot_name(book, word):
    if yields(book, settled_set(book), word):
        return "settled"
    yielding = [yields(book, camp, word) for camp in all_camps(book)]
    if all(yielding):
        return "sure"
    return "maybe" if any(yielding) else "never"


def all_sayings(book):
    return tuple((reason, word) for word in range(book[0]) for reason in all_reasons(book, word))


def saying_strikes(book, one, other):
    return any(book[1][guess] == one[1] for guess in members(other[0]))


def all_labels(book):
    told = all_sayings(book)
    strikers = [[one for one, saying in enumerate(told) if saying_strikes(book, saying, other)] for other in told]
    labels = ["left"] * len(told)
    while True:
        before = list(labels)
        for number, mine in enumerate(strikers):
            if all(before[one] == "out" for one in mine):
                labels[number] = "in"
            if any(before[one] == "in" for one in mine):
                labels[number] = "out"
        if labels == before:
            return tuple(labels)
