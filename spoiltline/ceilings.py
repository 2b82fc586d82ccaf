"""Ceilings: papers that show that the harm of many errors is at most a number."""

from spoiltline.checks import is_below, is_count, is_integer, is_list
from spoiltline.courses import END, START, gaps_from, price_of
from spoiltline.errors import TooMany
from spoiltline.lags import known_lags

MOST_NUMBER = 400


def paper_of(search):
    """A ceiling of the harm that a search found.

    All courses for which more than the harm might be needed were gone on with: their rows are told. For all others
    stand rows that have a sum for the chosen lag alone, from which with the rest just the harm is needed.
    """
    courses = search.courses
    found = {}
    for stop, errors in courses.reached():
        spare = search.harm - courses.rest[(stop, courses.many - errors)]
        if spare >= 0:
            found[(stop, errors, ((courses.chosen[stop], spare),))] = True
    for node in search.nodes:
        if node.stop != START and search.bound_of(node) > search.harm:
            found[(node.stop, node.errors, tuple([part for part in node.row if part[1] <= search.harm]))] = True
    for _, _, row in found:
        for number, _ in row:
            if abs(number) > MOST_NUMBER:
                raise TooMany(abs(number))
    return [(stop, errors, list(row)) for stop, errors, row in sorted(found)]


class Paper:
    """A value that has the form of a ceiling of a number."""

    def __init__(self, pairs, many, number, value):
        self.pairs = pairs
        self.many = many
        self.number = number
        # The unlike rows for each knot and number of errors.
        self.rows = {}
        for knot, errors, row in value:
            self.rows.setdefault((knot, errors), {})[tuple(row)] = True
        # For each gap the prices worked out so far: (number of a lag ahead, number of a lag behind, price).
        self.prices = {}

    def holds(self):
        """Whether each gap from the beginning and behind each row is answered for."""
        fewest = {}
        for knot, errors in self.rows:
            fewest[knot] = min(errors, fewest.get(knot, errors))
        gaps = {knot: gaps_from(self.pairs, knot, self.many - fewest[knot]) for knot in fewest}
        if not self.is_answered(START, 0, ((0, 0),), gaps_from(self.pairs, START, self.many)):
            return False
        return all([self.is_answered(knot, errors, row, gaps[knot])
                    for (knot, errors), rows in self.rows.items() for row in rows])

    def is_answered(self, stop, errors, row, gaps):
        """Whether each of the gaps behind a row leads to too many errors, or to a row that has no less."""
        for gap in gaps:
            together = errors + gap.errors
            if gap.met == END:
                # As if there were a row with the number for the only lag.
                needed, rows = together, [((0, self.number),)]
            else:
                needed = together + self.pairs.errors_from(gap.goal)
                rows = self.rows.get((gap.met, together), {})
            if needed <= self.many and not any([self.leads_to(row, stop, gap, behind) for behind in rows]):
                return False
        return True

    def leads_to(self, row, stop, gap, behind):
        """Whether for each lag and sum of the row behind a gap some lag of the one ahead comes to no more."""
        for number, most in behind:
            if not any([self.is_at_most(stop, ahead, gap, number, most - total) for ahead, total in row]):
                return False
        return True

    def is_at_most(self, stop, ahead, gap, behind, most):
        """Whether a gap costs at most so much between two lags."""
        known = self.prices.setdefault(gap, [])
        for one, other, price in known:
            # Between lags that are so far from these it costs no more and no less than by so much.
            away = abs(one - ahead) + abs(other - behind)
            if price + away <= most:
                return True
            if price - away > most:
                return False
        price = price_of(self.pairs, stop, ahead, gap, behind)
        known.append((ahead, behind, price))
        return price <= most


def is_form(pairs, many, number, value):
    """Whether the value has the form of a ceiling of a number."""
    return is_list(value) and all([is_entry(pairs, many, number, entry) for entry in value])


def is_entry(pairs, many, number, value):
    """Whether the value is a knot, a number of errors and a row."""
    if not isinstance(value, tuple) or len(value) != 3:
        return False
    knot, errors, row = value
    if not is_below(knot, len(pairs.knots)) or not is_count(errors) or errors > many:
        return False
    if not is_list(row) or len(row) == 0 or not all([is_part(pairs, knot, number, part) for part in row]):
        return False
    return all([one[0] < other[0] for one, other in zip(row, row[1:])])


def is_part(pairs, knot, number, value):
    """Whether the value is a lag of a knot with a sum that is at most the number."""
    if not isinstance(value, tuple) or len(value) != 2:
        return False
    lag, total = value
    if not is_integer(lag) or abs(lag) > MOST_NUMBER or not is_count(total) or total > number:
        return False
    return known_lags(pairs, knot).at(lag, pairs.knots[knot][0]) is not None
