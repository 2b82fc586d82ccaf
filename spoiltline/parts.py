"""Classes of states that errors lead between, the parts that lines lead round in, and what one error costs there."""

from spoiltline.courses import gaps_from
from spoiltline.decoders import states_met
from spoiltline.gaps import GapSearch
from spoiltline.graphs import strong_sets
from spoiltline.lags import place_behind
from spoiltline.pairs import cost_of
from spoiltline.passings import is_free
from spoiltline.rings import greatest_quotient, is_above
from spoiltline.spans import Spans
from spoiltline.words import length_of_root


def classes_of(pairs):
    """The ascending list of the classes, each an ascending tuple of states."""
    beside = [[] for _ in range(pairs.decoder.states)]
    for one, other in pairs.useful:
        beside[one].append(other)
        beside[other].append(one)
    found = []
    taken = {}
    for state in trimmed_states(pairs.decoder):
        if state not in taken:
            met = states_met(beside, [state])
            found.append(tuple([other for other in range(pairs.decoder.states) if met[other]]))
            for other in found[-1]:
                taken[other] = True
    return found


def trimmed_states(decoder):
    """The ascending list of the states that trimmed tells True."""
    trimmed = decoder.trimmed()
    return [state for state in range(decoder.states) if trimmed[state]]


def ahead_within(decoder, states):
    """For each of these states the list of those of them to which a sign leads."""
    inside = {state: True for state in states}
    return {state: [entry[0] for entry in decoder.steps[state] if entry is not None and entry[0] in inside]
            for state in states}


def parts_of(pairs):
    """The list of the parts, each as the list of its classes."""
    classes = classes_of(pairs)
    class_of = {state: index for index, states in enumerate(classes) for state in states}
    ahead = ahead_within(pairs.decoder, list(class_of))
    goals = {index: [class_of[goal] for state in states for goal in ahead[state]]
             for index, states in enumerate(classes)}
    return [[classes[index] for index in sorted(part)] for part in strong_sets(goals)]


def closed_states(pairs, part):
    """A set of states of the classes of a part that lead to each other, and to no other states of these classes."""
    ahead = ahead_within(pairs.decoder, [state for states in part for state in states])
    for states in strong_sets(ahead):
        inside = {state: True for state in states}
        if all([goal in inside for state in states for goal in ahead[state]]):
            return sorted(states)
    return []


def word_round(decoder, start, states):
    """The root of all texts that are written along ways round through a state within a set of states that all lead to
    each other: the empty text if nothing is written, None if they do not commute."""
    inside = {state: True for state in states}
    steps = [(state, *entry) for state in states for entry in decoder.steps[state]
             if entry is not None and entry[0] in inside]
    onward = texts_along(start, [(one, other, "", word) for one, other, word in steps])
    back = texts_along(start, [(other, one, word, "") for one, other, word in steps])
    texts = [onward[one] + word + back[other] for one, other, word in steps if word != ""]
    if texts == []:
        return ""
    word = texts[0][:length_of_root(texts[0])]
    for one, other, written in steps:
        # If all ways round write rounds of the word, all ways to a state write up to one place in it.
        if place_behind(word, len(onward[one]) % len(word), written) != len(onward[other]) % len(word):
            return None
    return word


def texts_along(start, steps):
    """For each state a text along a way of steps from the start; these are (state, state, what is put ahead of the text
    so far, what is put behind it)."""
    texts = {start: ""}
    queue = [start]
    at = 0
    while at < len(queue):
        state = queue[at]
        at += 1
        for one, other, ahead, behind in steps:
            if one == state and other not in texts:
                texts[other] = ahead + texts[state] + behind
                queue.append(other)
    return texts


def cost_of_states(pairs, states):
    """The cost of a part with these closed states, as a quotient."""
    word = word_round(pairs.decoder, states[0], states)
    if word == "":
        return (0, 1)
    if word is not None:
        return max_quotient([quotient_of(pairs, states, 1), quotient_of(pairs, states, -1)])
    places = ErrorPlaces(pairs, states)
    return (max([0] + list(places.led(places.first).values())), 1)


def max_quotient(quotients):
    best = (0, 1)
    for quotient in quotients:
        if is_above(quotient, best):
            best = quotient
    return best


def quotient_of(pairs, states, side):
    return greatest_quotient(edges_with_leads(pairs, states, side))


def edges_with_leads(pairs, states, side):
    """The edges between useful pairs of these states, (pair, pair, errors, letters), with how many letters more are
    written on one side: on the left for 1, on the right for -1."""
    inside = pairs_within(pairs, states)
    return [(pair, edge[1], cost_of(edge), side * (len(edge[2]) - len(edge[3])))
            for pair in inside for edge in pairs.edges(pair) if edge[1] in inside]


def pairs_within(pairs, states):
    """The useful pairs of two of these states, as a dict of True."""
    inside = {state: True for state in states}
    return {pair: True for pair in pairs.useful if pair[0] in inside and pair[1] in inside}


class ErrorPlaces:
    """The places of pairs of closed states that no free edges lead out of, and what one error costs between them."""

    def __init__(self, pairs, states):
        self.pairs = pairs
        self.inside = pairs_within(pairs, states)
        self.first = pairs.knot_of((states[0], states[0]))
        self.goals = self.closed_knots()
        self.search = GapSearch(pairs, {pair: 0 if pair in self.inside else 2 for pair in pairs.useful})
        self.prices = {}

    def closed_knots(self):
        free = {pair: [edge[1] for edge in self.pairs.edges(pair) if is_free(edge[0]) and edge[1] in self.inside]
                for pair in self.inside}
        found = {}
        for points in strong_sets(free):
            members = {pair: True for pair in points}
            if all([goal in members for pair in points for goal in free[pair]]):
                found[self.pairs.knot_of(points[0])] = True
        return found

    def led(self, place):
        """For each of these places to which one error leads from one of them the greatest price."""
        if place not in self.prices:
            gaps = {place: self.gaps_within(place, 1)}
            stack = [gap.met for gap in gaps[place]]
            while stack:
                stop = stack.pop()
                if stop not in gaps and stop not in self.goals:
                    gaps[stop] = self.gaps_within(stop, 0)
                    stack.extend([gap.met for gap in gaps[stop]])
            spans = Spans(self.pairs, gaps, [place], list(self.goals), 1)
            self.prices[place] = {goal: steps[-1][1] for goal, steps in spans.greatest(place).items()}
        return self.prices[place]

    def gaps_within(self, stop, many):
        """The gaps from a stop with at most so many errors to knots of these pairs."""
        return [gap for gap in gaps_from(self.search, stop, many) if gap.goal is not None]
