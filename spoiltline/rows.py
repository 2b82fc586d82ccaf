"""Rows: for each lag of a knot the least sum of prices of a course up to there, and the search for the harm.

A row is kept as its corners, a tuple of (number of a lag, sum): what it has for another lag is the least of these
sums with the difference of the numbers added, as prices differ by no more than the numbers of the lags do.
"""

from spoiltline.columns import spread
from spoiltline.courses import END, START, lag_of, price_of
from spoiltline.errors import TooMany
from spoiltline.gaps import price_between
from spoiltline.lags import PLACE, known_lags

MOST_ROWS = 20000


class Node:
    """A course up to a stop, with its row there: the course of the node ahead of it and one gap more."""

    def __init__(self, stop, errors, row, ahead, gap):
        self.stop = stop
        self.errors = errors
        self.row = row
        self.ahead = ahead
        self.gap = gap


class Search:
    """Goes on with the course for which the most may be needed, until that one is at the end.

    What may be needed for a course, its bound, is what its row has for the chosen lag, and the rest from there.
    """

    def __init__(self, courses):
        self.courses = courses
        self.highest = courses.rest.get((START, courses.many), 0)
        self.nodes = []
        # By the bound, the courses to be gone on with: (node, index of a gap in its options).
        self.waiting = {}
        # By what is needed, a course that is at the end: (node, gap).
        self.ended = {}
        # What is worked out once: the gaps from a stop with their bounds, the rows met and kept, the prices of a gap.
        self.options = {}
        self.met = {}
        self.kept = {}
        self.prices = {}
        self.harm = 0
        self.last = None

    def run(self, most):
        """Whether the harm is found with so many courses gone on with, however many if most is None."""
        if (START, self.courses.many) not in self.courses.rest:
            return True
        self.take(Node(START, 0, ((0, 0),), None, None))
        times = 0
        for bound in range(self.highest, -1, -1):
            while bound not in self.ended and self.waiting.get(bound, []) != []:
                if times == most:
                    return False
                times += 1
                node, at = self.waiting[bound].pop()
                self.go_on(node, at, bound)
            if bound in self.ended:
                self.harm = bound
                self.last = self.ended[bound]
                break
        return True

    def gaps_of_last(self):
        """The gaps of the course that needs the most."""
        node, gap = self.last
        gaps = [gap]
        while node.gap is not None:
            gaps.append(node.gap)
            node = node.ahead
        gaps.reverse()
        return gaps

    def bound_of(self, node):
        """What may be needed for the course of a node."""
        rest = self.courses.rest[(node.stop, self.courses.many - node.errors)]
        return least_sum(node.row, self.courses.chosen[node.stop]) + rest

    def take(self, node):
        self.nodes.append(node)
        self.wait(node, 0)

    def wait(self, node, at):
        """Has a course wait to be gone on with by the gap with this index, if there is one."""
        options = self.options_of(node.stop, self.courses.many - node.errors)
        if at < len(options):
            bound = least_sum(node.row, self.courses.chosen[node.stop]) + options[at][0]
            self.waiting.setdefault(bound, []).append((node, at))

    def options_of(self, stop, many):
        """The list of (what may be needed from the chosen lag on, gap) with so many errors left, the most first."""
        if (stop, many) not in self.options:
            rest = self.courses.rest
            rows = [(self.courses.cost(stop, gap) + rest[(gap.met, many - gap.errors)], gap)
                    for gap in self.courses.gaps[stop] if (gap.met, many - gap.errors) in rest]
            self.options[(stop, many)] = sorted(rows, key=lambda row: row[0], reverse=True)
        return self.options[(stop, many)]

    def go_on(self, node, at, bound):
        """Goes on with the course of a node by the gap with this index, with which no more than the bound is needed."""
        self.wait(node, at + 1)
        _, gap = self.options_of(node.stop, self.courses.many - node.errors)[at]
        if gap.met == END:
            pairs = self.courses.pairs
            needed = min([total + price_of(pairs, node.stop, number, gap, 0) for number, total in node.row])
            self.ended.setdefault(needed, (node, gap))
            return
        behind = Node(gap.met, node.errors + gap.errors, self.row_behind(node, gap, bound), node, gap)
        if self.is_new(behind):
            self.take(behind)

    def row_behind(self, node, gap, bound):
        """The row behind one gap more, without the lags that need more than going on from the chosen one, which needs
        no more than the bound."""
        sums = {}
        for number, total in node.row:
            add_sums(sums, total, self.prices_to(node.stop, number, gap), bound)
        rest = self.courses.rest[(gap.met, self.courses.many - node.errors - gap.errors)]
        return corners_of(self.courses, gap.met, sums, rest)

    def prices_to(self, stop, number, gap):
        mark = (gap, number)
        if mark not in self.prices:
            self.prices[mark] = prices_from(self.courses.pairs, stop, number, gap, self.highest)
        return self.prices[mark]

    def is_new(self, node):
        """Keeps the row of a node unless one that is nowhere below it is kept."""
        met = self.met.setdefault((node.stop, node.errors), {})
        if node.row in met:
            return False
        met[node.row] = True
        kept = self.kept.setdefault((node.stop, node.errors), [])
        for row in kept:
            if is_nowhere_below(row, node.row):
                return False
        kept.append(node.row)
        if len(kept) > MOST_ROWS:
            raise TooMany(len(kept))
        return True


def least_sum(row, number):
    """What a row has for the lag with this number."""
    return min([total + abs(corner - number) for corner, total in row])


def add_sums(sums, total, prices, bound):
    """Adds to the sums, for each lag the least one so far, those of this total and a price, up to the bound."""
    for price, goal in prices:
        if total + price > bound:
            break
        sums[goal] = min(total + price, sums.get(goal, total + price))


def corners_of(costs, stop, sums, rest):
    """The row at a stop that has these sums, without the lags that need more than going on from the chosen one, from
    which no more than the rest is needed."""
    most = least_sum(list(sums.items()), costs.chosen[stop]) + rest
    step = known_lags(costs.pairs, stop).told[2]
    return tuple(sorted([(number, total) for number, total in sums.items()
                         if total <= most and (step is None or is_corner(sums, number, step))]))


def is_corner(sums, number, step):
    """Whether the sum of this lag is less than what its neighbours lead to."""
    total = sums[number]
    return sums.get(number - step, total) + step > total and sums.get(number + step, total) + step > total


def is_nowhere_below(row, other):
    for number, total in row:
        if total < least_sum(other, number):
            return False
    return True


def prices_from(pairs, stop, number, gap, most):
    """The ascending list of (price, number of a lag) of a gap from one lag, with all lags to which it costs at most
    so much, and perhaps more."""
    before = lag_of(pairs, stop, number, gap.first)
    known = known_lags(pairs, gap.met)
    sort, least, period = known.told
    if sort == PLACE:
        return [(price_between(before, gap.left, gap.right, known.at(least, gap.goal)), least)]
    # A price is at least the difference of this number and that of the lag at the goal.
    middle = len(before[0]) - len(before[1]) + len(gap.left) - len(gap.right)
    lead = known.leads[gap.goal]
    lowest = middle - most + (least + lead - middle + most) % period
    here = [there for there in range(lowest, middle + most + 1, period)]
    if here == []:
        return []
    longest = (known.at(here[-1] - lead, gap.goal)[0], known.at(here[0] - lead, gap.goal)[1])
    ahead, aside = spread(before[0] + gap.left, longest[1], before[1] + gap.right, longest[0])
    return sorted([(ahead[there] if there >= 0 else aside[-there], there - lead) for there in here])
