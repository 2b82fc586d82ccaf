"""Spans: rows of gaps from one stop with only one lag to another, which come to no such goal in between.

For each goal and number of errors the greatest is looked for of the least sums of prices, over a lag for each time
that a knot in between is come to.
"""

from spoiltline.courses import Costs, price_of
from spoiltline.errors import TooMany
from spoiltline.graphs import left_in_order
from spoiltline.rows import MOST_ROWS, add_sums, corners_of, is_nowhere_below, least_sum, prices_from


class Spans(Costs):
    """The gaps of spans with at most so many errors, from these starts to these goals.

    rest tells for each stop and goal, as a list of (errors, sum) that ascends in both, the most that may still be
    needed from the chosen lag of the stop on, with so many errors.
    """

    def __init__(self, pairs, gaps, starts, goals, many):
        Costs.__init__(self, pairs, gaps, starts)
        self.many = many
        self.goals = {goal: True for goal in goals}
        self.rest = {}
        # For each stop its gaps to goals, by (goal, errors), and its gaps to other stops: lists of (cost, gap) each,
        # the dearest ones first for goals and last for others.
        self.final = {}
        self.onward = {}
        ahead = {stop: [gap.met for gap in told if gap.met in gaps and gap.met not in self.goals]
                 for stop, told in gaps.items()}
        # No gap leads on from a goal, and none of the others is come to twice: what is behind a stop comes first.
        for stop in left_in_order(ahead):
            self.sort_gaps(stop)
            self.rest[stop] = self.rest_from(stop)

    def sort_gaps(self, stop):
        final = {}
        onward = []
        for gap in self.gaps[stop]:
            if gap.met in self.goals:
                final.setdefault((gap.met, gap.errors), []).append((self.cost(stop, gap), gap))
            elif self.rest.get(gap.met, {}) != {}:
                onward.append((self.cost(stop, gap), gap))
        self.final[stop] = {mark: sorted(told, key=lambda row: row[0], reverse=True) for mark, told in final.items()}
        self.onward[stop] = sorted(onward, key=lambda row: row[0])

    def rest_from(self, stop):
        most = {mark: told[0][0] for mark, told in self.final[stop].items()}
        for cost, gap in self.onward[stop]:
            for goal, steps in self.rest[gap.met].items():
                for errors, total in steps:
                    mark = (goal, gap.errors + errors)
                    most[mark] = max(cost + total, most.get(mark, 0))
        return steps_of(most, self.many)

    def greatest(self, start):
        """For each goal to which a span leads the list of (errors, price) that ascends in both: the least number of
        errors, and each one with which the greatest price is greater than with less."""
        search = SpanSearch(self, start)
        search.run()
        return {goal: risen(prices) for goal, prices in search.best.items()}


def steps_of(most, many):
    """For each goal the ascending list of (errors, sum) of those sums that none with fewer errors equals."""
    found = {}
    for goal, errors in sorted(most):
        steps = found.setdefault(goal, [])
        if errors <= many and (steps == [] or most[(goal, errors)] > steps[-1][1]):
            steps.append((errors, most[(goal, errors)]))
    return {goal: steps for goal, steps in found.items() if steps != []}


def risen(prices):
    """The steps at which a list of prices, below 0 for none, rises."""
    ahead = [-1, *prices[:-1]]
    return [(errors, price) for errors, price in enumerate(prices) if price > ahead[errors]]


class SpanSearch:
    """Looks for the greatest prices of spans from a start, going on with the dearest gaps first.

    best tells for each goal the list of the greatest prices found so far for 0, 1, .. errors, -1 for none; for more
    errors the last one stands.
    """

    def __init__(self, spans, start):
        self.spans = spans
        self.start = start
        self.highest = highest_of(spans.rest[start])
        self.best = {}
        # To be gone on with: (stop, errors, row, cost, gap), the last one first.
        self.stack = []
        # For each (stop, errors) the rows met and those that are kept; the prices of a gap from one lag.
        self.met = {}
        self.kept = {}
        self.prices = {}

    def run(self):
        self.take(self.start, 0, ((self.spans.chosen[self.start], 0),))
        while self.stack:
            stop, errors, row, cost, gap = self.stack.pop()
            together = errors + gap.errors
            ahead = least_sum(row, self.spans.chosen[stop]) + cost
            if not self.may_rise(gap.met, together, ahead):
                continue
            behind = self.row_behind(stop, row, gap, ahead)
            if self.is_new(gap.met, together, behind):
                self.take(gap.met, together, behind)

    def take(self, stop, errors, row):
        """Goes on to the goals from a row at a stop, and has it wait to be gone on with by the other gaps."""
        ahead = least_sum(row, self.spans.chosen[stop])
        for (goal, more), gaps in self.spans.final[stop].items():
            together = errors + more
            if together > self.spans.many:
                continue
            for cost, gap in gaps:
                if ahead + cost <= self.known(goal, together):
                    break
                self.rise(goal, together, min([total + self.price(stop, number, gap) for number, total in row]))
        for cost, gap in self.spans.onward[stop]:
            if self.may_rise(gap.met, errors + gap.errors, ahead + cost):
                self.stack.append((stop, errors, row, cost, gap))

    def known(self, goal, errors):
        """The greatest price found so far of spans to a goal with at most so many errors."""
        prices = self.best.get(goal, [-1])
        return prices[min(errors, len(prices) - 1)]

    def rise(self, goal, errors, price):
        prices = self.best.setdefault(goal, [-1])
        while len(prices) <= errors:
            prices.append(prices[-1])
        at = errors
        while at < len(prices) and prices[at] < price:
            prices[at] = price
            at += 1

    def may_rise(self, stop, errors, ahead):
        """Whether more than what is found may be needed to some goal, from a stop that is come to with so many errors
        and with this sum at the chosen lag."""
        for goal, steps in self.spans.rest[stop].items():
            for more, total in steps:
                if errors + more <= self.spans.many and ahead + total > self.known(goal, errors + more):
                    return True
        return False

    def row_behind(self, stop, row, gap, ahead):
        """The row behind a gap more, if this is what going on from the chosen lags costs."""
        rest = highest_of(self.spans.rest[gap.met])
        sums = {}
        for number, total in row:
            add_sums(sums, total, self.prices_to(stop, number, gap), ahead + rest)
        return corners_of(self.spans, gap.met, sums, rest)

    def prices_to(self, stop, number, gap):
        mark = (gap, number)
        if mark not in self.prices:
            self.prices[mark] = prices_from(self.spans.pairs, stop, number, gap, self.highest)
        return self.prices[mark]

    def price(self, stop, number, gap):
        """The price of a gap from a lag to the only lag of a goal."""
        mark = (gap, number)
        if mark not in self.prices:
            self.prices[mark] = price_of(self.spans.pairs, stop, number, gap, self.spans.chosen[gap.met])
        return self.prices[mark]

    def is_new(self, stop, errors, row):
        """Keeps a row unless one with no more errors that is nowhere below it is kept."""
        met = self.met.setdefault((stop, errors), {})
        if row in met:
            return False
        met[row] = True
        kept = self.kept.setdefault(stop, {})
        for fewer, rows in kept.items():
            if fewer <= errors and is_any_nowhere_below(rows, row):
                return False
        rows = kept.setdefault(errors, [])
        rows.append(row)
        if len(rows) > MOST_ROWS:
            raise TooMany(len(rows))
        return True


def is_any_nowhere_below(rows, row):
    for other in rows:
        if is_nowhere_below(other, row):
            return True
    return False


def highest_of(rest):
    return max([steps[-1][1] for steps in rest.values()], default=0)
