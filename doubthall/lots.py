"""The four lots of a word, each with the sets of guesses that show it."""

from doubthall.camps import camps
from doubthall.masks import shown_set
from doubthall.reasons import a_reason
from doubthall.settled import settled


def shown_pair(names, camp, reason):
    return shown_set(names, camp) + " " + shown_set(names, reason)


class Lot:
    def __init__(self, word, name):
        self.word = word
        self.name = name

    def called(self):
        return self.name

    def shown(self, names):
        return [self.name]


class Settled(Lot):
    def __init__(self, word, reason):
        Lot.__init__(self, word, "settled")
        self.reason = reason

    def shown(self, names):
        return [self.name + " " + shown_set(names, self.reason)]


class Sure(Lot):
    def __init__(self, word, pairs):
        Lot.__init__(self, word, "sure")
        self.pairs = pairs

    def shown(self, names):
        return [self.name] + [shown_pair(names, camp, reason) for camp, reason in self.pairs]


class Maybe(Lot):
    def __init__(self, word, camp, reason, other):
        Lot.__init__(self, word, "maybe")
        self.camp = camp
        self.reason = reason
        self.other = other

    def shown(self, names):
        return [self.name, shown_pair(names, self.camp, self.reason), shown_set(names, self.other)]


class Never(Lot):
    def __init__(self, word):
        Lot.__init__(self, word, "never")


def lot(book, word):
    reason = a_reason(book, settled(book)[0], word)
    if reason is not None:
        return Settled(word, reason)
    pairs = [(camp, a_reason(book, camp, word)) for camp in camps(book)]
    yielding = [pair for pair in pairs if pair[1] is not None]
    others = [pair[0] for pair in pairs if pair[1] is None]
    if not others:
        return Sure(word, tuple(yielding))
    if not yielding:
        return Never(word)
    return Maybe(word, yielding[0][0], yielding[0][1], others[0])
