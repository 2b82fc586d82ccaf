"""How the greatest sums of sections grow with the number of errors."""

from math import lcm

from spoiltline.courses import END, START
from spoiltline.graphs import left_in_order, strong_sets
from spoiltline.rings import common_errors, greatest_quotient, is_above, tight_edges


class Growth:
    """The greatest sums of the prices of sections one behind the other, for as many numbers of errors as asked.

    sums tells for each place, the beginning and the end the list of these sums for at most 0, 1, .. errors, None
    where nothing leads there; held tells for each number of errors whether each sum comes from one that grows alike.
    """

    def __init__(self, told):
        self.behind = {START: [], END: []}
        for start, goal, errors, price in told:
            self.behind.setdefault(start, [])
            self.behind.setdefault(goal, []).append((start, errors, price))
        ahead = {point: [] for point in self.behind}
        for start, goal, errors, _ in told:
            if errors == 0:
                ahead[start].append(goal)
        # Sections without errors never lead round: where they lead comes behind where they start.
        self.order = left_in_order(ahead)
        self.order.reverse()
        self.most_errors = max([1, *[errors for _, _, errors, _ in told]])
        self.rates = rates_of(told, self.behind)
        self.period = period_of(told, self.rates)
        self.gains = {point: self.period * rate[0] // rate[1] for point, rate in self.rates.items()}
        self.sums = {point: [] for point in self.order}
        self.held = []

    def harms(self, many):
        """The list of the harms of 0, 1, .. errors, so many numbers."""
        while len(self.held) < many:
            self.go_on()
        return [0 if total is None else total for total in self.sums[END][:many]]

    def go_on(self):
        """Works out the sums for one error more."""
        many = len(self.held)
        held = True
        for point in self.order:
            most = 0 if point == START else None
            alike = point == START
            for start, errors, price in self.behind[point]:
                ahead = self.sums[start][many - errors] if errors <= many else None
                if ahead is None or (most is not None and ahead + price < most):
                    continue
                if most is None or ahead + price > most:
                    most = ahead + price
                    alike = False
                alike = alike or self.gains[start] == self.gains[point]
            self.sums[point].append(most)
            held = held and alike
        self.held.append(held)

    def even_from(self):
        """A number of errors from which on each sum is, for a period more, greater by its gain, for ever."""
        even = 0
        holding = 0
        while True:
            many = len(self.held)
            self.go_on()
            even = even + 1 if self.is_even(many - self.period) else 0
            holding = holding + 1 if self.held[many] else 0
            # These are the last numbers that are known: first come those that are even, and behind them a period of
            # those at which each sum comes from one that grows alike, so all of them do from there on.
            if even >= self.most_errors and holding >= self.period:
                return many - self.period - even + 1

    def is_even(self, many):
        """Whether each sum of so many errors is, for a period more, greater by the gain."""
        if many < 0:
            return False
        for point, sums in self.sums.items():
            if sums[many] is None or sums[many + self.period] - sums[many] != self.gains[point]:
                return False
        return True


def rates_of(told, points):
    """For each point how its sums grow by the errors, in the long run: as the best ring from which sections lead to
    it does."""
    rates = {point: (0, 1) for point in points}
    for inside, edges in rings_of(told):
        quotient = greatest_quotient(edges)
        for point in inside:
            rates[point] = quotient
    changed = True
    while changed:
        changed = False
        for start, goal, _, _ in told:
            if is_above(rates[start], rates[goal]):
                rates[goal] = rates[start]
                changed = True
    return rates


def rings_of(told):
    """For each set of places from each of which sections lead to each other one of it: its places, and the edges of
    the sections between them."""
    ahead = {}
    for start, goal, _, _ in told:
        ahead.setdefault(start, []).append(goal)
        ahead.setdefault(goal, [])
    found = []
    for points in strong_sets(ahead):
        inside = {point: True for point in points}
        found.append((points, [edge for edge in told if edge[0] in inside and edge[1] in inside]))
    return found


def period_of(told, rates):
    """A number of errors for which all sums grow evenly in the long run."""
    period = 1
    for points, edges in rings_of(told):
        # Where better rings lead to a place, its own ones count no more in the long run.
        if edges != [] and rates[points[0]][0] > 0 and greatest_quotient(edges) == rates[points[0]]:
            for errors in common_errors(tight_edges(edges, rates[points[0]])):
                period = lcm(period, errors)
    return period
