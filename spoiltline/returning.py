"""Decoders that come back to state 0: how their harm grows from some number of errors on."""

from math import lcm

from spoiltline.checks import is_count
from spoiltline.decoders import states_met, turned_round
from spoiltline.endless import least_of
from spoiltline.errors import Endless, InvalidCount, NotReturning, NotSteady, OneWord
from spoiltline.graphs import fewest_errors
from spoiltline.harms import searched
from spoiltline.pairs import Pairs
from spoiltline.parts import ErrorPlaces, edges_with_leads, max_quotient, quotient_of, trimmed_states, word_round
from spoiltline.passings import check_decoder
from spoiltline.rings import tight_edges
from spoiltline.steady import is_steady, price_of_steady
from spoiltline.subsets import line_together

MOST_ERRORS = 6


def comes_back(decoder):
    """Whether from each state that trimmed tells True some line leads back to state 0."""
    check_decoder(decoder)
    back = states_met(turned_round(all_ahead(decoder)), [0])
    return all([back[state] for state in trimmed_states(decoder)])


def one_word(decoder):
    """The root of all texts that lines from state 0 back to it write; None if they do not commute."""
    check_decoder(decoder)
    ahead = all_ahead(decoder)
    met = states_met(ahead, [0])
    back = states_met(turned_round(ahead), [0])
    return word_round(decoder, 0, [state for state in range(decoder.states) if met[state] and back[state]])


def period(decoder, kinds):
    """A number of errors for which, from some number on, the harm grows by just their price."""
    if not is_steady(decoder, kinds):
        raise NotSteady()
    pairs = returning_pairs(decoder, kinds)
    states = trimmed_states(decoder)
    if states == []:
        return 1
    if one_word(decoder) is None:
        return errors_back(ErrorPlaces(pairs, states))
    return errors_of_one_word(pairs, states)


def whole_row(decoder, kinds, most):
    """The least number of errors up to most whose harm is just their price, with the list of the harms of fewer."""
    steady = is_steady(decoder, kinds)
    if not is_count(most) or most > MOST_ERRORS:
        raise InvalidCount(most)
    if not steady:
        raise NotSteady()
    pairs = returning_pairs(decoder, kinds)
    if one_word(decoder) is not None:
        raise OneWord()
    # As the decoder does not write one word, the price is an integer.
    gain = price_of_steady(pairs)[0]
    row = [0]
    while len(row) <= most:
        told = searched(pairs, len(row)).harm
        if told == gain * len(row):
            return (len(row), row)
        row.append(told)
    return None


def together(decoder):
    """A shortest line that leads all states that trimmed tells True to one of them, or None."""
    check_decoder(decoder)

    def is_one(members):
        return members & (members - 1) == 0

    states = trimmed_states(decoder)
    return None if states == [] else line_together(decoder, states, is_one)


def all_ahead(decoder):
    """For each state the list of the states to which its entries lead."""
    return [[entry[0] for entry in row if entry is not None] for row in decoder.steps]


def returning_pairs(decoder, kinds):
    """The pairs of a steady decoder that comes back, if its harm is endless for no number of errors."""
    pairs = Pairs(decoder, kinds)
    if least_of(pairs) is not None:
        raise Endless(least_of(pairs))
    if not comes_back(decoder):
        raise NotReturning()
    return pairs


def errors_back(places):
    """The fewest errors that lead from the place of equal states back to it, each of them at the greatest price.

    Such a ring may stand ahead of any course, so that many errors more never cost less.
    """
    most = max([0] + list(places.led(places.first).values()))
    if most == 0:
        return 1
    errors = 0
    newest = [places.first]
    met = {}
    while places.first not in met:
        errors += 1
        found = []
        for place in newest:
            for goal, told in places.led(place).items():
                if told == most and goal not in met:
                    met[goal] = True
                    found.append(goal)
        newest = found
    return errors


def errors_of_one_word(pairs, states):
    """A number of errors of rings through equal states, on which the side that may write more does so by the price:
    one ring for the left and one for the right, where both may.

    One word is written round and round. So where the harm of many errors is great, one side writes more, and a ring
    put ahead makes the difference of both lengths, and with it the harm, greater by the price.
    """
    best = max_quotient([quotient_of(pairs, states, 1), quotient_of(pairs, states, -1)])
    if best[0] == 0:
        return 1
    errors = 1
    for side in (1, -1):
        if quotient_of(pairs, states, side) == best:
            errors = lcm(errors, errors_round(tight_edges(edges_with_leads(pairs, states, side), best)))
    return errors


def errors_round(edges):
    """The fewest errors, one or more, on a ring of edges through pairs of equal states."""
    ahead = {}
    for start, goal, errors, _ in edges:
        ahead.setdefault(start, []).append((goal, errors))
    # Free edges lead from pairs of equal states to such pairs alone.
    starts = [goal for start, goal, errors, _ in edges if errors == 1 and start[0] == start[1]]
    least = fewest_errors(starts, ahead)
    return 1 + min([errors for pair, errors in least.items() if pair[0] == pair[1]])
