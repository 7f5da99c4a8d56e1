"""Books that the tests make up, always the same ones for the same seed."""

import random

# Names in the order that a book asks for: the guesses rise, then the others rise.
GUESS_NAMES = ("ga", "gb", "gc", "gd", "ge", "gf", "gg", "gh")
OTHER_NAMES = tuple("w" + letter for letter in "abcdefghijklmnopqrstuv")


def made_book(dice, most_guesses=8, most_others=22, most_rules=40):
    """A tuple (names, book) within the bounds of point 6; some words may stand in no row."""
    guesses = dice.randint(0, most_guesses)
    others = dice.randint(1, most_others)
    many = guesses + others
    banes = tuple(dice.randrange(many) for _ in range(guesses))
    rules = []
    for _ in range(dice.randint(0, most_rules)):
        size = dice.choice((0, 1, 1, 1, 2, 2, 3, 6))
        body = sorted(dice.sample(range(many), min(size, many)))
        rule = (dice.randrange(guesses, many), tuple(body))
        if rule not in rules:
            rules.append(rule)
    return GUESS_NAMES[:guesses] + OTHER_NAMES[:others], (many, banes, tuple(rules))


def made_books(seed, count, **bounds):
    dice = random.Random(seed)
    return [made_book(dice, **bounds) for _ in range(count)]


def striking_book(dice, most_guesses):
    """A tuple (names, book) where each guess has a bane of its own that few sets yield: many rounds, many flaws."""
    guesses = dice.randint(1, most_guesses)
    rules = []
    # Where only guesses ahead strike, all gets a rank or is struck; else some guesses strike one another in a ring.
    ahead = dice.random() < 0.6
    for guess in range(guesses):
        pool = range(guess if ahead else guesses)
        for _ in range(dice.choice((0, 1, 1, 2))):
            size = min(dice.choice((0, 1, 1, 1, 1, 1, 2, 2)), len(pool))
            rule = (guesses + guess, tuple(sorted(dice.sample(pool, size))))
            if rule not in rules and (size or dice.random() < 0.3):
                rules.append(rule)
    banes = tuple(range(guesses, 2 * guesses))
    return GUESS_NAMES[:guesses] + OTHER_NAMES[:guesses], (2 * guesses, banes, tuple(rules))


def mixed_books(seed, count, most_guesses):
    """Books of both sorts, by turns."""
    dice = random.Random(seed)
    books = []
    for _ in range(count):
        books.append(made_book(dice, most_guesses, 6, 12)[1])
        books.append(striking_book(dice, most_guesses)[1])
    return books


def rival_book(dice, most_guesses):
    """A tuple (names, book) where many guesses strike one another: many camps, and words that these share or not."""
    guesses = dice.randint(2, most_guesses)
    rules = []
    for one in range(guesses):
        for other in range(one + 1, guesses):
            if dice.random() < 0.4:
                rules.append((guesses + one, (other,)))
                if dice.random() < 0.85:
                    rules.append((guesses + other, (one,)))
        if dice.random() < 0.1:
            rules.append((guesses + one, (one,)))
    many = 2 * guesses + 3
    for _ in range(dice.randint(0, 8)):
        rule = (dice.randrange(2 * guesses, many), tuple(sorted(dice.sample(range(many), dice.choice((1, 1, 1, 2))))))
        if rule not in rules:
            rules.append(rule)
    banes = tuple(range(guesses, 2 * guesses))
    return GUESS_NAMES[:guesses] + OTHER_NAMES[:guesses + 3], (many, banes, tuple(rules[:40]))


def rival_books(seed, count, most_guesses):
    dice = random.Random(seed)
    return [rival_book(dice, most_guesses)[1] for _ in range(count)]


def ladder(count):
    """Each guess is struck by the one ahead of it alone, the first by none."""
    banes = (count,) + tuple(range(count - 1))
    return (count + 1, banes, ())


def tower(count):
    """A ladder whose first guess is struck by the empty set."""
    words, banes, rules = ladder(count)
    return (words, banes, ((count, ()),))


def ring(count):
    """Each guess is struck by the one ahead of it alone, the first by the last one."""
    return (count, (count - 1,) + tuple(range(count - 1)), ())
