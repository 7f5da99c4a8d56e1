"""Rows and books as texts: how they are read, refused and shown."""

from doubthall.errors import Headed, NoRow, TooMany, Twice

NO_WORDS = ("guess", "unless", "if")
MOST_LETTERS = 12
MOST_IN_BODY = 6
MOST_GUESSES = 8
MOST_RULES = 40
MOST_WORDS = 30


def is_word(part):
    if part in NO_WORDS or not 1 <= len(part) <= MOST_LETTERS:
        return False
    # Python's own tests for letters also take letters beyond a to z.
    return all(["a" <= sign <= "z" for sign in part])


def is_guess_row(parts):
    if len(parts) != 4 or parts[0] != "guess" or parts[2] != "unless":
        return False
    return is_word(parts[1]) and is_word(parts[3])


def is_rule_row(parts):
    # A body that is too long or has a word twice passes here: these two have refusals of their own.
    if len(parts) == 1:
        return is_word(parts[0])
    if len(parts) == 2 or parts[1] != "if":
        return False
    return all([is_word(part) for part in parts[:1] + parts[2:]])


def read_row(line, row=0):
    parts = line.split(" ")
    if is_guess_row(parts):
        return ("guess", parts[1], parts[3])
    if not is_rule_row(parts):
        raise NoRow(row)
    body = tuple(parts[2:])
    if len(body) > MOST_IN_BODY:
        raise TooMany(row)
    if len(set(body)) < len(body):
        raise Twice(row)
    return ("rule", parts[0], body)


def lines_of(text):
    # Splitting the empty text would give one empty row, but it is the book without rows.
    return text.split("\n") if text else []


def told_once(told):
    # The bane is left out: a guess may not be told again with another bane either.
    if told[0] == "guess":
        return ("guess", told[1])
    return ("rule", told[1], tuple(sorted(told[2])))


def of_kind(rows, kind):
    return [told for told in rows if told[0] == kind]


def words_in(rows):
    words = []
    for told in rows:
        words.append(told[1])
        words.extend([told[2]] if told[0] == "guess" else told[2])
    return words


def over_bounds(rows):
    if len(of_kind(rows, "guess")) > MOST_GUESSES or len(of_kind(rows, "rule")) > MOST_RULES:
        return True
    return len(set(words_in(rows))) > MOST_WORDS


def read_rows(lines):
    rows = []
    for number, line in enumerate(lines):
        told = read_row(line, number)
        if told_once(told) in [told_once(above) for above in rows]:
            raise Twice(number)
        rows.append(told)
        if over_bounds(rows):
            raise TooMany(number)
    return rows


def refuse_headed(rows):
    guesses = [told[1] for told in of_kind(rows, "guess")]
    for number, told in enumerate(rows):
        if told[0] == "rule" and told[1] in guesses:
            raise Headed(number)


def names_of(rows):
    guesses = [told[1] for told in of_kind(rows, "guess")]
    return tuple(sorted(guesses) + sorted(set(words_in(rows)) - set(guesses)))


def numbered_rule(names, told):
    body = sorted([names.index(word) for word in told[2]])
    return (names.index(told[1]), tuple(body))


def numbered_book(names, rows):
    # Guesses are numbered in the order of their names, so the rows sorted by name give the banes by number.
    guesses = sorted(of_kind(rows, "guess"))
    banes = tuple([names.index(told[2]) for told in guesses])
    rules = tuple([numbered_rule(names, told) for told in of_kind(rows, "rule")])
    return (len(names), banes, rules)


def read_lines(lines):
    rows = read_rows(lines)
    refuse_headed(rows)
    names = names_of(rows)
    return (names, numbered_book(names, rows))


def read_book(text):
    return read_lines(lines_of(text))


def shown_rule(names, rule):
    if not rule[1]:
        return names[rule[0]]
    return names[rule[0]] + " if " + " ".join([names[k] for k in rule[1]])


def shown_guess(names, guess, bane):
    return "guess " + names[guess] + " unless " + names[bane]


def shown_book(names, book):
    guesses = [shown_guess(names, guess, bane) for guess, bane in enumerate(book[1])]
    rules = [shown_rule(names, rule) for rule in book[2]]
    return "\n".join(guesses + rules)
