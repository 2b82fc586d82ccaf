"""Pairs of states: two runs side by side, one that reads what was sent and one that reads what came."""

from spoiltline.checks import is_integer
from spoiltline.errors import InvalidPair
from spoiltline.graphs import cheapest_steps, edges_behind, fewest_errors, strong_sets
from spoiltline.passings import check_kinds, edge_of, is_free, steps_with

BEGINNING = (0, 0)


class Pairs:
    """The useful pairs of states of a decoder, with their edges by these kinds of errors, and the knots."""

    def __init__(self, decoder, kinds):
        check_kinds(decoder, kinds)
        steps = steps_with(decoder.signs, kinds)
        met = edges_met(decoder, steps)
        ending = [pair for pair in met if are_words(decoder, pair)]
        ahead = {pair: [(edge[1], cost_of(edge)) for edge in met[pair]] for pair in met}
        self._errors_to = fewest_errors([BEGINNING], ahead)
        self._errors_from = fewest_errors(ending, edges_behind(ahead))
        self._edges = {pair: [edge for edge in met[pair] if edge[1] in self._errors_from] for pair in met
                       if pair in self._errors_from}
        self._steps = {pair: [(edge[0], edge[1], cost_of(edge)) for edge in self._edges[pair]] for pair in self._edges}
        self._ending = {pair: True for pair in ending}
        self.decoder = decoder
        self.kinds = tuple([step for step in steps if not is_free(step)])
        self.useful = tuple(sorted(self._edges))
        self.knots = tuple(sorted(knots_of(self._edges)))
        self._knot_of = {pair: index for index, knot in enumerate(self.knots) for pair in knot}
        # What other modules worked out about the knots, by the index of the knot.
        self.lags_known = {}

    def edges(self, pair):
        """The ascending list of the edges from a pair: (step, pair to which it leads, left, right)."""
        self._check(pair)
        return list(self._edges[pair])

    def errors_to(self, pair):
        """The least number of errors on a way from (0, 0) to a pair."""
        self._check(pair)
        return self._errors_to[pair]

    def errors_from(self, pair):
        """The least number of errors on a way from a pair to one of which both ends are words."""
        self._check(pair)
        return self._errors_from[pair]

    def way(self, start, goal):
        """A way with the fewest errors from a pair to a pair, all pairs on it unlike, or None if there is none."""
        self._check(start)
        self._check(goal)
        return self._way_to(start, {goal: True})

    def way_out(self, start):
        """A way with the fewest errors from a pair to one of which both ends are words, all pairs on it unlike."""
        self._check(start)
        return self._way_to(start, self._ending)

    def knot_of(self, pair):
        """The index of the knot that has the pair, or None."""
        self._check(pair)
        return self._knot_of.get(pair)

    def _check(self, pair):
        if not is_pair(pair) or pair not in self._edges:
            raise InvalidPair(pair)

    def _way_to(self, start, goals):
        """A way with the fewest errors to the first of the goals that is met, None if none is."""

        def is_goal(pair):
            return pair in goals

        def edges_from(pair):
            return self._steps[pair]

        return cheapest_steps(start, is_goal, edges_from)


def is_pair(value):
    """Whether the value is a tuple of two integers."""
    return isinstance(value, tuple) and len(value) == 2 and is_integer(value[0]) and is_integer(value[1])


def are_words(decoder, pair):
    """Whether both ends of a pair are words."""
    return decoder.ends[pair[0]] is not None and decoder.ends[pair[1]] is not None


def cost_of(edge):
    return 0 if is_free(edge[0]) else 1


def edges_met(decoder, steps):
    """For each pair that is met from (0, 0), the ascending list of its edges by these steps, which ascend."""
    met = {}
    stack = [BEGINNING]
    while stack:
        pair = stack.pop()
        if pair not in met:
            told = [(step, edge_of(decoder, pair, step)) for step in steps]
            met[pair] = [(step, *edge) for step, edge in told if edge is not None]
            stack.extend([edge[1] for edge in met[pair]])
    return met


def knots_of(edges):
    """The knots, each as the ascending tuple of its pairs."""
    free = {pair: [edge[1] for edge in edges[pair] if is_free(edge[0])] for pair in edges}
    return [tuple(sorted(points)) for points in strong_sets(free) if is_letter_written(edges, points)]


def is_letter_written(edges, points):
    """Whether a free edge from one of these pairs to one of them writes a letter."""
    inside = {pair: True for pair in points}
    for pair in points:
        for step, goal, left, right in edges[pair]:
            if is_free(step) and goal in inside and left + right != "":
                return True
    return False


def walked(pairs, start, passing):
    """The pair behind the steps and what they write; None in its place if some step is no edge."""
    pair = start
    left = []
    right = []
    for step in passing:
        edge = None
        if pair is not None and (is_free(step) or step in pairs.kinds):
            edge = edge_of(pairs.decoder, pair, step)
        if edge is None:
            return (None, "", "")
        pair, word, other = edge
        left.append(word)
        right.append(other)
    return (pair, "".join(left), "".join(right))
