"""Ceilings: papers that show that the harm of many errors is at most a number."""

from spoiltline.checks import is_below, is_count, is_integer, is_list
from spoiltline.courses import END, START, gaps_from, price_of
from spoiltline.errors import TooMany
from spoiltline.gaps import GapSearch
from spoiltline.lags import known_lags
from spoiltline.rows import least_sum

MOST_NUMBER = 400


def paper_of(search):
    """A ceiling of the harm that a search found.

    All courses for which more than the harm might be needed were gone on with: their rows are told. For all others
    stand rows that have a sum for the chosen lag alone, from which with the rest just the harm is needed.
    """
    courses = search.courses
    found = {}
    for stop, errors in courses.reached():
        spare = search.harm - courses.rest[(stop, courses.many - errors)]
        if spare >= 0:
            found[(stop, errors, ((courses.chosen[stop], spare),))] = True
    for node in search.nodes:
        if node.stop != START and search.bound_of(node) > search.harm:
            found[(node.stop, node.errors, tuple([part for part in node.row if part[1] <= search.harm]))] = True
    for _, _, row in found:
        for number, _ in row:
            if abs(number) > MOST_NUMBER:
                raise TooMany(abs(number))
    return [(stop, errors, list(row)) for stop, errors, row in sorted(found)]


class Paper:
    """A value that has the form of a ceiling of a number.

    For each knot that it has one lag is chosen. What a row has for this lag and the price of a gap between chosen
    lags are enough where a row behind the gap has so much to spare: most gaps are answered for at once then.
    """

    def __init__(self, pairs, many, number, value):
        self.pairs = pairs
        self.many = many
        # The unlike rows for each knot and number of errors; at the end one that has the number for the only lag.
        self.rows = {(END, errors): {((0, number),): True} for errors in range(many + 1)}
        self.rows[(START, 0)] = {((0, 0),): True}
        for knot, errors, row in value:
            self.rows.setdefault((knot, errors), {})[tuple(row)] = True
        self.chosen = frequent_lags(self.rows)
        self.spare = {mark: max([spare_of(row, self.chosen[mark[0]]) for row in rows])
                      for mark, rows in self.rows.items()}
        self.search = GapSearch(pairs, {pair: pairs.errors_from(pair) for pair in pairs.useful})
        # The prices worked out so far: by the gap, the number of a lag ahead and that of a lag behind.
        self.prices = {}

    def holds(self):
        """Whether each gap from the beginning and behind each row is answered for."""
        fewest = {}
        for stop, errors in self.rows:
            fewest[stop] = min(errors, fewest.get(stop, errors))
        gaps = {stop: self.gaps_by_price(stop, self.many - fewest[stop]) for stop in fewest if stop != END}
        for (stop, errors), rows in self.rows.items():
            for row in rows:
                if stop != END and not self.is_answered(stop, errors, row, gaps[stop]):
                    return False
        return True

    def gaps_by_price(self, stop, many):
        """For each (stop met, errors of gaps) the list of (price between chosen lags, gap), the dearest first."""
        told = {}
        for gap in gaps_from(self.search, stop, many):
            # To a knot that the paper has not no lag is chosen, and no price is asked.
            price = 0
            if gap.met in self.chosen:
                price = self.price(stop, self.chosen[stop], gap, self.chosen[gap.met])
            told.setdefault((gap.met, gap.errors), []).append((price, gap))
        return {mark: sorted(told[mark], key=lambda row: row[0], reverse=True) for mark in told}

    def is_answered(self, stop, errors, row, gaps):
        """Whether each of the gaps behind a row leads to too many errors, or to a row that has no less."""
        ahead = least_sum(row, self.chosen[stop])
        for (met, more), told in gaps.items():
            together = errors + more
            needed = 0 if met == END else self.pairs.errors_from(self.pairs.knots[met][0])
            if together + needed > self.many:
                continue
            if (met, together) not in self.rows:
                return False
            for price, gap in told:
                if ahead + price <= self.spare[(met, together)]:
                    break
                if not self.leads_to_one(row, stop, gap, self.rows[(met, together)]):
                    return False
        return True

    def leads_to_one(self, row, stop, gap, rows):
        """Whether a gap leads from a row to one of these that has no less for any of its lags."""
        for behind in rows:
            if self.leads_to(row, stop, gap, behind):
                return True
        return False

    def leads_to(self, row, stop, gap, behind):
        for number, most in behind:
            if not self.is_at_most(row, stop, gap, number, most):
                return False
        return True

    def is_at_most(self, row, stop, gap, number, most):
        """Whether for some lag of a row the sum with the price of a gap to a lag is at most this."""
        least = self.price(stop, self.chosen[stop], gap, self.chosen[gap.met]) - abs(number - self.chosen[gap.met])
        for ahead, total in row:
            # Lags that are so far from the chosen one change a price by no more.
            if total + least - abs(ahead - self.chosen[stop]) > most:
                continue
            if total + self.price(stop, ahead, gap, number) <= most:
                return True
        return False

    def price(self, stop, number, gap, behind):
        mark = (gap, number, behind)
        if mark not in self.prices:
            self.prices[mark] = price_of(self.pairs, stop, number, gap, behind)
        return self.prices[mark]


def frequent_lags(rows):
    """For each stop the number of the lag that the most of its rows have."""
    times = {}
    for (stop, _), told in rows.items():
        counts = times.setdefault(stop, {})
        for number in [number for row in told for number, _ in row]:
            counts[number] = counts.get(number, 0) + 1
    return {stop: max([(times[stop][number], number) for number in times[stop]])[1] for stop in times}


def spare_of(row, number):
    """How much there may be for the lag with this number, so that a row with that is nowhere above this one."""
    return min([total - abs(lag - number) for lag, total in row])


def is_form(pairs, many, number, value):
    """Whether the value has the form of a ceiling of a number."""
    return is_list(value) and all([is_entry(pairs, many, number, entry) for entry in value])


def is_entry(pairs, many, number, value):
    """Whether the value is a knot, a number of errors and a row."""
    if not isinstance(value, tuple) or len(value) != 3:
        return False
    knot, errors, row = value
    if not is_below(knot, len(pairs.knots)) or not is_count(errors) or errors > many:
        return False
    if not is_list(row) or len(row) == 0 or not all([is_part(pairs, knot, number, part) for part in row]):
        return False
    return all([one[0] < other[0] for one, other in zip(row, row[1:])])


def is_part(pairs, knot, number, value):
    """Whether the value is a lag of a knot with a sum that is at most the number."""
    if not isinstance(value, tuple) or len(value) != 2:
        return False
    lag, total = value
    if not is_integer(lag) or abs(lag) > MOST_NUMBER or not is_count(total) or total > number:
        return False
    return known_lags(pairs, knot).at(lag, pairs.knots[knot][0]) is not None
