"""Courses: gaps one behind the other, from the beginning through knots to the end.

A stop is here the index of a knot, START or END.
"""

from spoiltline.distances import alike
from spoiltline.gaps import GapSearch, price_between
from spoiltline.lags import PLACE, ROUND, known_lags

START = -1
END = -2
# So many gaps, those with the fewest errors, are asked when better lags are looked for, and so many lags are tried.
MOST_ASKED = 1500
MOST_TRIALS = 200


class Gap:
    """A gap that starts at a pair, None for the beginning, and ends at a pair, None for the end, of the stop met."""

    def __init__(self, first, goal, left, right, errors, met):
        self.first = first
        self.goal = goal
        self.left = left
        self.right = right
        self.errors = errors
        self.met = met


class Costs:
    """What gaps cost between chosen lags.

    Here gaps tells for each stop the list of its gaps, and for each stop to which gaps lead from the starts the number
    of one lag is chosen; the starts have only one. What gaps cost so is at least what they need.
    """

    def __init__(self, pairs, gaps, starts):
        self.pairs = pairs
        self.gaps = gaps
        self.prices = {}
        self.chosen = chosen_lags(pairs, gaps, starts)

    def cost(self, stop, gap):
        """The price of a gap from a stop between the chosen lags."""
        mark = (gap, self.chosen[stop], self.chosen[gap.met])
        if mark not in self.prices:
            self.prices[mark] = price_of(self.pairs, stop, mark[1], gap, mark[2])
        return self.prices[mark]


class Courses(Costs):
    """The gaps of all courses with at most so many errors, where none comes to a bad knot.

    rest tells the most that may still be needed from the chosen lag of a stop on, with so many errors left.
    """

    def __init__(self, pairs, many):
        search = GapSearch(pairs, {pair: pairs.errors_from(pair) for pair in pairs.useful})
        gaps = {START: gaps_from(search, START, many)}
        for stop, knot in enumerate(pairs.knots):
            left = many - pairs.errors_to(knot[0])
            if left >= pairs.errors_from(knot[0]):
                gaps[stop] = gaps_from(search, stop, left)
        Costs.__init__(self, pairs, gaps, [START])
        self.many = many
        self.rest = rest_of(greatest_costs(self, self.gaps), many)

    def reached(self):
        """All (index of a knot, errors) with which courses may come to it and on to the end."""
        return [(stop, errors) for stop in self.gaps for errors in range(self.many + 1)
                if stop != START and (stop, self.many - errors) in self.rest
                and self.pairs.errors_to(self.pairs.knots[stop][0]) <= errors]

    def choose_better(self):
        """Chooses other lags of round knots while less may be needed then."""
        asked = few_gaps(self.gaps)
        least = self.judged(asked)
        moves = moves_of(self)
        at = 0
        idle = 0
        for _ in range(MOST_TRIALS):
            if idle == len(moves):
                break
            stop, away = moves[at]
            self.chosen[stop] += away
            now = self.judged(asked)
            if now < least:
                least = now
                idle = 0
            else:
                self.chosen[stop] -= away
                at = (at + 1) % len(moves)
                idle += 1
        self.rest = rest_of(greatest_costs(self, self.gaps), self.many)

    def judged(self, gaps):
        """What may be needed with these gaps, and what the dearest ones of them cost together."""
        greatest = greatest_costs(self, gaps)
        together = sum([cost for costs in greatest.values() for cost in costs.values()])
        return (rest_of(greatest, self.many)[(START, self.many)], together)


def gaps_from(search, stop, many):
    """The gaps from a stop with at most so many errors, those that the search needs from their goals on counted.

    Of the gaps with as many errors that cost the same between the same lags there is one.
    """
    pairs = search.pairs
    starts = [None] if stop == START else pairs.knots[stop]
    found = {}
    for first in starts:
        for goal, left, right, errors in search.gaps_from(first, many):
            gap = Gap(first, goal, left, right, errors, END if goal is None else pairs.knot_of(goal))
            found.setdefault(effect_of(pairs, stop, gap), gap)
    return list(found.values())


def effect_of(pairs, stop, gap):
    """What is equal for two gaps from a stop only if they lead to one stop with as many errors and cost the same."""
    before = only_lag(pairs, stop, gap.first)
    behind = only_lag(pairs, gap.met, gap.goal)
    if before is not None and behind is not None:
        return (gap.met, gap.errors, price_between(before, gap.left, gap.right, behind))
    if before is not None:
        texts = without_beginning(before[0] + gap.left, before[1] + gap.right)
        return (gap.met, gap.errors, texts, all_lags(pairs, gap.met, gap.goal))
    texts = (gap.left, gap.right)
    if behind is not None:
        texts = without_beginning((gap.left + behind[1])[::-1], (gap.right + behind[0])[::-1])
        return (gap.met, gap.errors, texts, all_lags(pairs, stop, gap.first))
    return (gap.met, gap.errors, texts, all_lags(pairs, stop, gap.first), all_lags(pairs, gap.met, gap.goal))


def only_lag(pairs, stop, pair):
    """The lag at a pair of a stop that has no other one, else None."""
    if stop < 0:
        return ("", "")
    known = known_lags(pairs, stop)
    return known.table[pair] if known.told[0] == PLACE else None


def all_lags(pairs, stop, pair):
    """What is equal for two pairs of a knot, which is no place, only if all lags of the knot are the same at both."""
    known = known_lags(pairs, stop)
    return (known.leads[pair], *known.places[pair]) if known.told[0] == ROUND else pair


def without_beginning(one, other):
    """Two texts without the longest text with which both begin, which costs nothing."""
    many = alike(one, 0, other, 0)
    return (one[many:], other[many:])


def lag_of(pairs, stop, number, pair):
    """The lag with this number at a pair of a stop, ("", "") at the beginning and at the end."""
    return ("", "") if stop < 0 else known_lags(pairs, stop).at(number, pair)


def price_of(pairs, stop, number, gap, behind):
    """The price of a gap from a stop between the lags with these numbers."""
    before = lag_of(pairs, stop, number, gap.first)
    return price_between(before, gap.left, gap.right, lag_of(pairs, gap.met, behind, gap.goal))


def chosen_lags(pairs, gaps, starts):
    """For each stop the number of a lag that costs little where the first row of gaps leads to it."""
    chosen = {START: 0, END: 0}
    for stop in starts:
        if stop != START:
            chosen[stop] = known_lags(pairs, stop).told[1]
    queue = list(starts)
    at = 0
    while at < len(queue):
        stop = queue[at]
        at += 1
        for gap in gaps.get(stop, []):
            if gap.met not in chosen:
                before = lag_of(pairs, stop, chosen[stop], gap.first)
                number = len(before[0]) - len(before[1]) + len(gap.left) - len(gap.right)
                chosen[gap.met] = nearest(known_lags(pairs, gap.met), gap.goal, number)
                queue.append(gap.met)
    return chosen


def nearest(known, pair, number):
    """The number of the lag of a knot whose number at this pair is nearest to this one."""
    sort, least, period = known.told
    if sort == PLACE:
        return least
    away = (number - known.leads[pair] - least) % period
    if 2 * away > period:
        away -= period
    return number - known.leads[pair] - away


def few_gaps(gaps):
    """For each stop its gaps with few errors."""
    errors = sorted([gap.errors for told in gaps.values() for gap in told])
    most = max(1, errors[-1] if len(errors) <= MOST_ASKED else errors[MOST_ASKED] - 1)
    return {stop: [gap for gap in told if gap.errors <= most] for stop, told in gaps.items()}


def moves_of(courses):
    """All (stop, difference) by which the number of the lag of a round knot may be changed."""
    moves = []
    for stop in courses.gaps:
        if stop != START and known_lags(courses.pairs, stop).told[0] == ROUND:
            period = known_lags(courses.pairs, stop).told[2]
            moves.extend([(stop, period), (stop, -period), (stop, 4 * period), (stop, -4 * period)])
    return moves


def greatest_costs(courses, gaps):
    """For each stop the greatest cost of its gaps to each stop with each number of errors."""
    greatest = {}
    for stop, told in gaps.items():
        costs = {}
        for gap in told:
            mark = (gap.met, gap.errors)
            costs[mark] = max(courses.cost(stop, gap), costs.get(mark, 0))
        greatest[stop] = costs
    return greatest


def rest_of(greatest, many):
    """For each (stop, errors) the greatest sum of costs on courses from there to the end with at most so many errors.

    It is not told where there is no such course.
    """
    rest = {}
    for errors in range(many + 1):
        rest[(END, errors)] = 0
        # Gaps without errors never lead back to a stop, so this comes to an end.
        changed = True
        while changed:
            changed = False
            for stop, costs in greatest.items():
                sums = [cost + rest[(met, errors - more)] for (met, more), cost in costs.items()
                        if (met, errors - more) in rest]
                if sums != [] and rest.get((stop, errors)) != max(sums):
                    rest[(stop, errors)] = max(sums)
                    changed = True
    return rest
