"""The harms of all numbers of errors at once, of pinned decoders."""

from spoiltline.checks import is_count
from spoiltline.courses import END
from spoiltline.errors import InvalidCount
from spoiltline.growth import Growth
from spoiltline.pairs import Pairs
from spoiltline.sections import sections_of

MOST_NUMBERS = 400


def harm_row(decoder, kinds, many):
    """The list of the harms of 0, 1, .. errors, so many numbers."""
    pairs = Pairs(decoder, kinds)
    if not is_count(many) or many > MOST_NUMBERS:
        raise InvalidCount(many)
    return Growth(sections_of(pairs)).harms(many)


def slope(decoder, kinds):
    """What the harm grows by for each error in the long run, as a quotient (gain, errors) in lowest terms."""
    return Growth(sections_of(Pairs(decoder, kinds))).rates[END]


def staircase(decoder, kinds):
    """The least (start, period, gain) so that from start on the harm of a period more is greater by the gain."""
    told = sections_of(Pairs(decoder, kinds))
    if told == []:
        return (0, 1, 0)
    growth = Growth(told)
    even = growth.even_from()
    period = 1
    while not is_period(growth, even, period):
        period += 1
    harms = growth.harms(even + period + 1)
    gain = harms[even + period] - harms[even]
    start = even
    while start > 0 and harms[start - 1 + period] - harms[start - 1] == gain:
        start -= 1
    return (start, period, gain)


def is_period(growth, even, period):
    """Whether all harms from a number of errors on, from which sums grow evenly, grow alike by so many errors more."""
    harms = growth.harms(even + growth.period + period)
    first = harms[even + period] - harms[even]
    rises = [harms[many + period] - harms[many] for many in range(even, even + growth.period)]
    return rises == [first] * len(rises)
