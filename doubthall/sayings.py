"""The web of sayings: each word with each of its reasons, what strikes what, and which of them are in or out."""

from doubthall.masks import inside, mask_of, places
from doubthall.reasons import least_yielding, yielded_by_each


def sayings(book):
    known = yielded_by_each(book)
    told = []
    for word in range(book[0]):
        told.extend([(reason, word) for reason in least_yielding(known, word)])
    return tuple(told)


def banes_of(book, guesses):
    return mask_of([book[1][guess] for guess in places(guesses)])


def strikes(book, one, other):
    return inside(1 << one[1], banes_of(book, other[0]))


def words_of(told, given, wanted):
    return mask_of([saying[1] for saying, label in zip(told, given) if label == wanted])


def label_by(banes, won, alive):
    if not banes & alive:
        return "in"
    return "out" if banes & won else "left"


def next_labels(book, told, given):
    # All sayings of one word strike the same ones, so it is enough to know of each word how its sayings fare.
    won = words_of(told, given, "in")
    alive = won | words_of(told, given, "left")
    return [label_by(banes_of(book, saying[0]), won, alive) for saying in told]


def labels(book):
    told = sayings(book)
    given = ["left" for saying in told]
    later = next_labels(book, told, given)
    while later != given:
        given = later
        later = next_labels(book, told, given)
    return tuple(given)
