"""What a set of guesses yields, and the ways of rules that lead from it to a word."""

from doubthall.masks import inside, mask_of


def bringing_steps(book, held):
    # Only the first rule to bring a word is kept, so that no two steps have the same head.
    rules = book[2]
    bodies = [mask_of(rule[1]) for rule in rules]
    known = held
    steps = []
    grown = True
    while grown:
        grown = False
        for number, rule in enumerate(rules):
            head = 1 << rule[0]
            if not inside(head, known) and inside(bodies[number], known):
                known |= head
                steps.append(number)
                grown = True
    return steps


def known_after(book, held, steps):
    return held | mask_of([book[2][step][0] for step in steps])


def yielded(book, held):
    return known_after(book, held, bringing_steps(book, held))


def way_fault(book, held, word, steps):
    rules = book[2]
    known = held
    for place, step in enumerate(steps):
        if not 0 <= step < len(rules):
            return place
        if not inside(mask_of(rules[step][1]), known):
            return place
        known |= 1 << rules[step][0]
    return None if inside(1 << word, known) else len(steps)


def needed_steps(book, word, steps):
    # Walked from the end, so that every step that needs a head is seen before the step that brings it.
    needed = 1 << word
    kept = []
    for step in reversed(steps):
        rule = book[2][step]
        if inside(1 << rule[0], needed):
            needed |= mask_of(rule[1])
            kept.append(step)
    return tuple(reversed(kept))


def way(book, held, word):
    steps = bringing_steps(book, held)
    if not inside(1 << word, known_after(book, held, steps)):
        return None
    return needed_steps(book, word, steps)
