"""The desk, which keeps rows and is asked about them by lines."""

from doubthall.camps import camps
from doubthall.errors import NoAsk, NotGuess, NotTold, NoWord, RowError
from doubthall.lots import lot
from doubthall.masks import mask_of, shown_set
from doubthall.settled import settled
from doubthall.standing import flaw
from doubthall.texts import is_word, lines_of, read_lines, read_row, shown_book, shown_rule, told_once
from doubthall.yields import way


def has_form(parts):
    named = len(parts) - 1
    if parts[0] == "why":
        return named == 1 or (named > 2 and parts[2] == "by")
    if parts[0] == "lot":
        return named == 1
    if parts[0] in ("ranks", "book"):
        return named == 0
    return parts[0] in ("flaw", "camps")


def named_words(parts):
    return parts[1:2] if parts[0] in ("lot", "why") else []


def named_guesses(parts):
    if parts[0] == "why":
        return parts[3:]
    return parts[1:] if parts[0] in ("flaw", "camps") else []


def refuse_form(parts):
    # The `by` of why is a word like any other, so what stands behind the first word is words throughout.
    if not has_form(parts) or not all([is_word(part) for part in parts[1:]]):
        raise NoAsk("no such line can be asked")


def refuse_names(names, book, parts):
    for word in named_words(parts) + named_guesses(parts):
        if word not in names:
            raise NoWord(f"the book has no word {word}")
    for word in named_guesses(parts):
        if names.index(word) >= len(book[1]):
            raise NotGuess(f"{word} is no guess")


def why_rows(names, book, held, word):
    steps = way(book, held, word)
    if steps is None:
        return ["no"]
    return ["yes"] + [shown_rule(names, book[2][step]) for step in steps]


def flaw_rows(names, book, held):
    found = flaw(book, held)
    if found is None:
        return ["stands"]
    return [" ".join([found[0], names[found[1]], shown_set(names, found[2])])]


def rank_row(name, rank):
    return name + " " + ("-" if rank is None else str(rank))


def rank_rows(names, book):
    return [rank_row(names[guess], rank) for guess, rank in enumerate(settled(book)[1])]


def camp_rows(names, book, held):
    return [shown_set(names, camp) for camp in camps(book, held)]


def answer(names, book, parts):
    words = [names.index(word) for word in named_words(parts)]
    held = mask_of([names.index(guess) for guess in named_guesses(parts)])
    if parts[0] == "lot":
        return lot(book, words[0]).shown(names)
    if parts[0] == "why":
        return why_rows(names, book, held, words[0])
    if parts[0] == "flaw":
        return flaw_rows(names, book, held)
    if parts[0] == "ranks":
        return rank_rows(names, book)
    if parts[0] == "camps":
        return camp_rows(names, book, held)
    return lines_of(shown_book(names, book))


def what_it_tells(line):
    try:
        told = read_row(line)
    except RowError:
        return None
    # Two rules are the same in whatever order their words stand, two guesses only with the same bane.
    return told if told[0] == "guess" else told_once(told)


class Desk:
    def __init__(self, text=""):
        self.keep(lines_of(text))

    def keep(self, lines):
        # Read ahead of all else, so that lines which are refused leave the desk as it was.
        told = read_lines(lines)
        self.lines = lines
        self.names = told[0]
        self.book = told[1]

    def drop(self, line):
        dropped = what_it_tells(line)
        rest = [kept for kept in self.lines if what_it_tells(kept) != dropped]
        if len(rest) == len(self.lines):
            raise NotTold("no row that is kept tells this")
        self.keep(rest)

    def ask(self, line):
        # What stands behind these two is taken as it is, blanks and line feeds too.
        if line.startswith("tell "):
            self.keep(self.lines + [line[len("tell "):]])
            return []
        if line.startswith("drop "):
            self.drop(line[len("drop "):])
            return []
        parts = line.split(" ")
        refuse_form(parts)
        refuse_names(self.names, self.book, parts)
        return answer(self.names, self.book, parts)
