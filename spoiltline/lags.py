"""Lags of knots: what one side has written more than the other where both runs read alike."""

from spoiltline.checks import is_below, is_integer
from spoiltline.distances import alike
from spoiltline.errors import InvalidKnot, InvalidPair, NoLag
from spoiltline.rounds import FreeWays, kept_along, shortest_writing
from spoiltline.words import around, lag_of_number, lag_onward, length_of_root, turns_between

BAD = "bad"
PLACE = "place"
ROUND = "round"


def lags(pairs, knot):
    """("bad", None, None), ("place", number, None) or ("round", least number from 0 on, step)."""
    return known_lags(pairs, knot).told


def lag_at(pairs, knot, number, pair):
    """The lag at a pair of the knot, of the lag whose number at its first pair is this one."""
    known = known_lags(pairs, knot)
    if pairs.knot_of(pair) != knot:
        raise InvalidPair(pair)
    lag = known.at(number, pair)
    if lag is None:
        raise NoLag()
    return lag


def loops(pairs, knot):
    """One or two free ways from the first pair of the knot back to it, (passing, left, right): for a place two
    whose texts on the left do not commute."""
    known = known_lags(pairs, knot)
    if known.told[0] == BAD:
        raise NoLag()
    return list(known.rounds)


class KnotLags:
    """All lags of a knot, and the rounds that show that it has no others."""

    def __init__(self, told, rounds):
        self.told = told
        self.rounds = rounds
        # For each pair of a place its lag.
        self.table = {}
        # For each pair of a knot that is not bad how much more is written on the left up to it; in a round knot
        # the text that goes round on each side, and the place in it where the pair stands.
        self.leads = {}
        self.words = ("", "")
        self.places = {}

    def at(self, number, pair):
        """The lag at a pair, of the lag with this number at the first pair, or None if there is none."""
        sort, least, period = self.told
        if sort == BAD or not is_integer(number):
            return None
        if sort == PLACE:
            return self.table[pair] if number == least else None
        if (number - least) % period != 0:
            return None
        here = number + self.leads[pair]
        if here < 0:
            return ("", around(self.words[0], self.places[pair][0], -here))
        return (around(self.words[1], self.places[pair][1], here), "")


def known_lags(pairs, knot):
    """The lags of the knot with this index, which are worked out once."""
    if not is_below(knot, len(pairs.knots)):
        raise InvalidKnot(knot)
    if knot not in pairs.lags_known:
        pairs.lags_known[knot] = lags_along(FreeWays(pairs, knot))
    return pairs.lags_known[knot]


def lags_along(ways):
    """The lags of the knot with these ways."""
    leads, uneven = kept_along(ways, 0, lead_behind)
    if uneven is not None:
        return bad_knot([uneven])
    # As no round writes more on one side than on the other, this one writes letters on both.
    base = shortest_writing(ways)
    words = (base[1][:length_of_root(base[1])], base[2][:length_of_root(base[2])])

    def left_place(at, left, _):
        return place_behind(words[0], at, left)

    def right_place(at, _, right):
        return place_behind(words[1], at, right)

    lefts, left_off = kept_along(ways, 0, left_place)
    rights, right_off = kept_along(ways, 0, right_place)
    if left_off is None and right_off is None:
        known = round_knot(base, words)
        known.leads = leads
        known.places = {pair: (lefts[pair], rights[pair]) for pair in lefts}
        return known
    if left_off is None:
        return bad_knot([base, right_off])
    known = place_or_bad(ways, base, left_off)
    known.leads = leads
    return known


def lead_behind(lead, left, right):
    return lead + len(left) - len(right)


def place_behind(word, at, text):
    """The place behind a text in a word that goes round, from the place at on, or None if something else is written."""
    if around(word, at, len(text)) != text:
        return None
    return (at + len(text)) % len(word)


def bad_knot(rounds):
    return KnotLags((BAD, None, None), rounds)


def round_knot(base, words):
    """The lags where all rounds write rounds of these words."""
    turned = turns_between(words[0], words[1])
    if turned == []:
        return bad_knot([base])
    known = KnotLags((ROUND, -turned[0] % len(words[0]), len(words[0])), [base])
    known.words = words
    return known


def place_or_bad(ways, base, other):
    """The only lag where the texts of two rounds on the left do not commute, if there is one."""
    number = len_alike(base[2], other[2]) - len_alike(base[1], other[1])
    lag = lag_of_number(number, base[1], base[2])
    if base[2] + other[2] == other[2] + base[2] or not all([stays(lag, base), stays(lag, other)]):
        return bad_knot([base, other])
    table, off = kept_along(ways, lag, lag_onward)
    if off is not None:
        return bad_knot([base, other, off])
    known = KnotLags((PLACE, number, None), [base, other])
    known.table = table
    return known


def stays(lag, loop):
    return lag_onward(lag, loop[1], loop[2]) == lag


def len_alike(one, other):
    """How many letters two texts, one behind the other, have in common at the beginning in both orders."""
    return alike(one + other, 0, other + one, 0)
