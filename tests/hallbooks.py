"""Books that the tests make up, always the same ones for the same seed."""

import random

# Names in the order that a book asks for: the guesses rise, then the others rise.
GUESS_NAMES = ("ga", "gb", "gc", "gd", "ge", "gf", "gg", "gh")
OTHER_NAMES = tuple("w" + letter for letter in "abcdefghijklmnopqrstuv")


def made_book(dice, most_guesses=8, most_others=22, most_rules=40):
    """A tuple (names, book) within the bounds of point 6; some words may stand in no row."""
    guesses = dice.randint(0, most_guesses)
    others = dice.randint(1, most_others)
    many = guesses + others
    banes = tuple(dice.randrange(many) for _ in range(guesses))
    rules = []
    for _ in range(dice.randint(0, most_rules)):
        size = dice.choice((0, 1, 1, 1, 2, 2, 3, 6))
        body = sorted(dice.sample(range(many), min(size, many)))
        rule = (dice.randrange(guesses, many), tuple(body))
        if rule not in rules:
            rules.append(rule)
    return GUESS_NAMES[:guesses] + OTHER_NAMES[:others], (many, banes, tuple(rules))


def made_books(seed, count, **bounds):
    dice = random.Random(seed)
    return [made_book(dice, **bounds) for _ in range(count)]
