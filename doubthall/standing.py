"""What a set of guesses strikes and defends, whether it stands, and the flaw of one that does not."""

from doubthall.masks import inside, mask_of, places
from doubthall.reasons import a_reason, all_guesses
from doubthall.yields import yielded


def struck(book, held):
    known = yielded(book, held)
    return mask_of([guess for guess, bane in enumerate(book[1]) if inside(1 << bane, known)])


def unstruck(book, held):
    return all_guesses(book) & ~struck(book, held)


def at_peace(book, held):
    return held & struck(book, held) == 0


def defended(book, held):
    # A set without a struck guess lies within the unstruck ones, and these yield all that it yields:
    # so the held set has an answer to every such set just where it has one to the unstruck ones.
    return unstruck(book, unstruck(book, held))


def stands(book, held):
    return at_peace(book, held) and inside(held, defended(book, held))


def first_strike(book, guesses, within):
    guess = places(guesses)[0]
    return (guess, a_reason(book, within, book[1][guess]))


def flaw(book, held):
    torn = held & struck(book, held)
    if torn:
        return ("torn",) + first_strike(book, torn, held)
    bare = held & ~defended(book, held)
    if bare:
        return ("bare",) + first_strike(book, bare, unstruck(book, held))
    return None
