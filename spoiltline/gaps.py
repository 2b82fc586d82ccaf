"""Gaps: ways between two knots, before the first one and behind the last one, and what they cost."""

from spoiltline.checks import is_count, is_text
from spoiltline.columns import changes_between
from spoiltline.errors import InvalidCount, InvalidPair, InvalidText, TooMany
from spoiltline.graphs import cheapest_steps, edges_behind, fewest_errors
from spoiltline.pairs import BEGINNING, are_words, cost_of
from spoiltline.words import is_lag

MOST_GAPS = 20000


def gaps(pairs, start, many):
    """The ascending list of (goal, left, right, errors) of all gaps from a start with at most so many errors."""
    if start is not None and pairs.knot_of(start) is None:
        raise InvalidPair(start)
    if not is_count(many):
        raise InvalidCount(many)
    return GapSearch(pairs, errors_to_stops(pairs)).gaps_from(start, many)


def gap_price(before, left, right, behind):
    """What a gap that writes these costs between two lags."""
    if not is_lag(before):
        raise InvalidText(before)
    for text in (left, right):
        if not is_text(text):
            raise InvalidText(text)
    if not is_lag(behind):
        raise InvalidText(behind)
    return price_between(before, left, right, behind)


def price_between(before, left, right, behind):
    """As gap_price, for what need not be asked."""
    return changes_between(before[0] + left + behind[1], before[1] + right + behind[0])


class GapSearch:
    """Looks for what the gaps from a start write, going along ways with fewer errors first.

    Here needed tells for each useful pair a number of errors, at least that of any way to where a gap may end. Gaps
    count only if they have at most so many errors with those that are needed from their goals on.
    """

    def __init__(self, pairs, needed):
        self.pairs = pairs
        self.needed = needed
        self.many = 0
        # By their errors, the ways to be gone on with: (pair to which they lead, left, right).
        self.waiting = {}
        # What the ways to each pair that stands in no knot write, and the errors of each (goal, left, right).
        self.texts = {}
        self.found = {}
        # The edges from each pair that stands in no knot, None for other pairs, once a way leads there.
        self.onward = {}

    def gaps_from(self, start, many):
        """The ascending list of (goal, left, right, errors)."""
        if self.pairs.useful == ():
            return []
        if start is None and self.pairs.knot_of(BEGINNING) is not None:
            return [(BEGINNING, "", "", 0)]
        self.many = many
        self.waiting = {}
        self.texts = {}
        self.found = {}
        if start is None:
            self.waiting[0] = [(BEGINNING, "", "")]
        else:
            self.end_at(start, "", "", 0)
            self.follow(edges_away(self.pairs, start), "", "", 0)
        for errors in range(many + 1):
            self.go_on(errors)
            if self.waiting == {}:
                break
        return self.listed()

    def go_on(self, errors):
        """Goes on with all ways that have so many errors."""
        stack = self.waiting.pop(errors, [])
        while stack:
            pair, left, right = stack.pop()
            edges = self.edges_onward(pair)
            if edges is None:
                self.keep(pair, left, right, errors)
            elif self.is_new(pair, left, right):
                self.end_at(pair, left, right, errors)
                self.follow(edges, left, right, errors)
                stack.extend(self.waiting.pop(errors, []))

    def edges_onward(self, pair):
        if pair not in self.onward:
            self.onward[pair] = self.pairs.edges(pair) if self.pairs.knot_of(pair) is None else None
        return self.onward[pair]

    def follow(self, edges, left, right, errors):
        for edge in edges:
            together = errors + cost_of(edge)
            if together + self.needed[edge[1]] <= self.many:
                self.waiting.setdefault(together, []).append((edge[1], left + edge[2], right + edge[3]))

    def is_new(self, pair, left, right):
        known = self.texts.setdefault(pair, {})
        if (left, right) in known:
            return False
        known[(left, right)] = True
        # One way on from this pair makes as many gaps that write unlike texts.
        if len(known) > MOST_GAPS:
            raise TooMany(len(known))
        return True

    def end_at(self, pair, left, right, errors):
        ends = (self.pairs.decoder.ends[pair[0]], self.pairs.decoder.ends[pair[1]])
        if None not in ends:
            self.keep(None, left + ends[0], right + ends[1], errors)

    def keep(self, goal, left, right, errors):
        self.found.setdefault((goal, left, right), errors)
        if len(self.found) > MOST_GAPS:
            raise TooMany(len(self.found))

    def listed(self):
        ends = sorted([(left, right, errors) for (goal, left, right), errors in self.found.items() if goal is None])
        rest = sorted([(*told, errors) for told, errors in self.found.items() if told[0] is not None])
        return [(None, *row) for row in ends] + rest


def edges_away(pairs, pair):
    """The edges from a pair of a knot but the free ones that stay in the knot."""
    knot = pairs.knot_of(pair)
    return [edge for edge in pairs.edges(pair) if cost_of(edge) == 1 or pairs.knot_of(edge[1]) != knot]


def errors_to_stops(pairs):
    """For each useful pair the least number of errors on a way from it to one where a gap may end."""
    stops = [pair for pair in pairs.useful if pairs.knot_of(pair) is not None or are_words(pairs.decoder, pair)]
    ahead = {pair: [(edge[1], cost_of(edge)) for edge in pairs.edges(pair)] for pair in pairs.useful
             if pairs.knot_of(pair) is None}
    return fewest_errors(stops, edges_behind(ahead))


def steps_of_gap(pairs, start, goal, left, right):
    """The steps of a gap with the fewest errors that leads from a start to this goal and writes these."""
    # Points are (pair, number of letters written on the left, on the right, whether the way has an edge).
    beginning = (BEGINNING if start is None else start, 0, 0, False)

    def is_end(point):
        pair, one, other, under_way = point
        if goal is None:
            ends = (pairs.decoder.ends[pair[0]], pairs.decoder.ends[pair[1]])
            return ends == (left[one:], right[other:]) and not (under_way and pairs.knot_of(pair) is not None)
        return (pair, one, other) == (goal, len(left), len(right)) and (under_way or start is None)

    def edges_from(point):
        pair, one, other, under_way = point
        if pairs.knot_of(pair) is None:
            edges = pairs.edges(pair)
        else:
            edges = [] if under_way else edges_away(pairs, pair)
        return [(edge[0], (edge[1], one + len(edge[2]), other + len(edge[3]), True), cost_of(edge)) for edge in edges
                if left.startswith(edge[2], one) and right.startswith(edge[3], other)]

    return cheapest_steps(beginning, is_end, edges_from)
