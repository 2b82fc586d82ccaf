"""What the points on steady decoders and on those that come back tell, by plain trying."""

import itertools

from spoiltline.words import root


def lines(signs, most):
    return itertools.chain(*[itertools.product(range(signs), repeat=many) for many in range(most + 1)])


def with_one_error(line, kind):
    """All lines that come for this one with one error of this kind."""
    for at in range(len(line) + 1):
        if kind[0] == "put":
            yield (*line[:at], kind[1], *line[at:])
        elif at < len(line) and line[at] == kind[1]:
            yield (*line[:at], *kind[2:], *line[at + 1:])


def steady(decoder, kinds, most):
    """By the words of [121], with one error in lines of at most so many signs."""
    for line in lines(decoder.signs, most):
        accepted = decoder.written(line) is not None
        for kind in kinds:
            if any((decoder.written(other) is not None) != accepted for other in with_one_error(line, kind)):
                return False
    return True


def classes(decoder, useful):
    """By the words of [124], going on until nothing changes."""
    trimmed = decoder.trimmed()
    met = {state: {state} for state in range(decoder.states) if trimmed[state]}
    for _ in met:
        for one, other in useful:
            met[one] |= met[other]
            met[other] |= met[one]
            for state in met[one]:
                met[state] |= met[one]
    return sorted({tuple(sorted(states)) for states in met.values()})


def leads(decoder, state, line):
    """(state behind a line, what is written) from a state, or None."""
    text = ""
    for sign in line:
        entry = decoder.steps[state][sign]
        if entry is None:
            return None
        state, text = entry[0], text + entry[1]
    return state, text


def comes_back(decoder):
    trimmed = decoder.trimmed()
    return all(any(leads(decoder, state, line) is not None and leads(decoder, state, line)[0] == 0
                   for line in lines(decoder.signs, decoder.states - 1))
               for state in range(decoder.states) if trimmed[state])


def one_word(decoder, most):
    """By the words of [131], with lines of at most so many signs."""
    told = [leads(decoder, 0, line) for line in lines(decoder.signs, most)]
    texts = {ahead[1] for ahead in told if ahead is not None and ahead[0] == 0}
    for one, other in itertools.combinations(sorted(texts), 2):
        if one + other != other + one:
            return None
    return root(max(texts, key=len))


def together(decoder, most, is_goal=lambda states: len(states) == 1):
    """A shortest line that leads all states told True to a goal, of at most so many signs, or None."""
    trimmed = decoder.trimmed()
    states = [state for state in range(decoder.states) if trimmed[state]]
    if not states:
        return None
    for line in lines(decoder.signs, most):
        told = [leads(decoder, state, line) for state in states]
        if None not in told:
            goals = {state for state, _ in told}
            if is_goal(goals) and all(trimmed[state] for state in goals):
                return line
    return None
