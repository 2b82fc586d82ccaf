"""Steady decoders: where no error changes whether a line is accepted, one error decides."""

from spoiltline.endless import least_of
from spoiltline.errors import NotSteady
from spoiltline.pairs import Pairs
from spoiltline.parts import classes_of, closed_states, cost_of_states, max_quotient, parts_of
from spoiltline.passings import check_kinds, steps_with

# In the place of a state: the line is rejected.
REJECTED = -1
# The harm is at most so many times the third power of the number of states above what the price tells.
SPARE = 66


def is_steady(decoder, kinds):
    """Whether for each passing with errors of these kinds both lines are accepted or none is."""
    check_kinds(decoder, kinds)
    steps = steps_with(decoder.signs, kinds)
    met = {(0, 0): True}
    stack = [(0, 0)]
    while stack:
        one, other = stack.pop()
        if accepts(decoder, one) != accepts(decoder, other):
            return False
        for step in steps:
            left = one if step[0] == "put" else state_behind(decoder, one, step[1])
            right = other if step[0] == "lost" else state_behind(decoder, other, step[-1])
            if (left, right) not in met:
                met[(left, right)] = True
                stack.append((left, right))
    return True


def accepts(decoder, state):
    return state != REJECTED and decoder.ends[state] is not None


def state_behind(decoder, state, sign):
    if state == REJECTED or decoder.steps[state][sign] is None:
        return REJECTED
    return decoder.steps[state][sign][0]


def price(decoder, kinds):
    """What one error costs in the long run, as a quotient (gain, errors) in lowest terms; None if harm is endless."""
    return price_of_steady(steady_pairs(decoder, kinds))


def classes(decoder, kinds):
    """The ascending list of the classes, each an ascending tuple of states."""
    return classes_of(steady_pairs(decoder, kinds))


def spare(decoder, kinds):
    """A number of changes that no harm is above what its errors cost by the price; None if harm is endless."""
    pairs = steady_pairs(decoder, kinds)
    # The price itself is not needed for what is told here, but what price refuses is refused, too.
    if price_of_steady(pairs) is None:
        return None
    return SPARE * decoder.states * decoder.states * decoder.states


def steady_pairs(decoder, kinds):
    """The pairs of a steady decoder."""
    if not is_steady(decoder, kinds):
        raise NotSteady()
    return Pairs(decoder, kinds)


def price_of_steady(pairs):
    if least_of(pairs) is not None:
        return None
    return max_quotient([cost_of_states(pairs, closed_states(pairs, part)) for part in parts_of(pairs)])
