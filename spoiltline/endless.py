"""From which number of errors on the harm has no bound, and ways that show it."""

from spoiltline.checks import is_integer
from spoiltline.distances import round_price
from spoiltline.lags import BAD, known_lags
from spoiltline.pairs import BEGINNING, Pairs, are_words, walked
from spoiltline.passings import errors_in, is_passing
from spoiltline.words import turns_between


def least_endless(decoder, kinds):
    """The least number of errors with endless harm, or None if there is none."""
    return least_of(Pairs(decoder, kinds))


def endless(decoder, kinds):
    """Ways through a bad knot with the fewest errors, (errors, before, loop, after, price), or None."""
    pairs = Pairs(decoder, kinds)
    knot = worst_knot(pairs)
    if knot is None:
        return None
    first = pairs.knots[knot][0]
    loop, left, right = unlike_round(known_lags(pairs, knot).rounds)
    return (errors_through(pairs, knot), pairs.way(BEGINNING, first), loop, pairs.way_out(first),
            round_price(left, right))


def is_endless(decoder, kinds, value):
    """Whether the value is a tuple as endless tells them."""
    pairs = Pairs(decoder, kinds)
    least = least_of(pairs)
    if least is None or not isinstance(value, tuple) or len(value) != 5:
        return False
    errors, before, loop, after, price = value
    if not is_integer(errors) or errors != least or not is_integer(price) or price < 1:
        return False
    if not all([is_passing(passing, decoder.signs) for passing in (before, loop, after)]):
        return False
    if errors_in(loop) != 0 or errors_in(before) + errors_in(after) != errors:
        return False
    written = round_written(pairs, before, loop, after)
    return written is not None and round_price(written[0], written[1]) == price


def least_of(pairs):
    knot = worst_knot(pairs)
    return None if knot is None else errors_through(pairs, knot)


def worst_knot(pairs):
    """The index of the first bad knot with the fewest errors on ways through it, or None if no knot is bad."""
    bad = [knot for knot in range(len(pairs.knots)) if known_lags(pairs, knot).told[0] == BAD]
    worst = None
    for knot in bad:
        if worst is None or errors_through(pairs, knot) < errors_through(pairs, worst):
            worst = knot
    return worst


def errors_through(pairs, knot):
    """The fewest errors of a way from the beginning to the end through a knot, the same for each of its pairs."""
    first = pairs.knots[knot][0]
    return pairs.errors_to(first) + pairs.errors_from(first)


def unlike_round(rounds):
    """A round that writes texts that are not conjugate, made of the rounds that show that a knot is bad.

    If no lag stays in all of them, some numbers of each one, one behind the other, write such texts: where the
    numbers are great and far from each other, only one lag could turn the one text into the other.
    """
    most = 1
    while True:
        found = None
        for numbers in numbers_up_to(most, len(rounds)):
            loop = rounds_behind(rounds, numbers)
            if turns_between(loop[1], loop[2]) == [] and (found is None or len(loop[0]) < len(found[0])):
                found = loop
        if found is not None:
            return found
        most *= 2


def numbers_up_to(most, many):
    """All tuples of so many of the numbers 0, 1, 2, 4, .. up to the greatest one."""
    told = [0, 1]
    while told[-1] < most:
        told.append(2 * told[-1])
    rows = [()]
    for _ in range(many):
        rows = [(*row, number) for row in rows for number in told]
    return rows


def rounds_behind(rounds, numbers):
    """The round that goes each of these so many times, one behind the other."""
    passing, left, right = (), "", ""
    for number, (steps, one, other) in zip(numbers, rounds):
        passing += steps * number
        left += one * number
        right += other * number
    return (passing, left, right)


def round_written(pairs, before, loop, after):
    """What loop writes on the two sides, None unless the three are ways that fit together, by the kinds."""
    met, _, _ = walked(pairs, BEGINNING, before)
    behind, left, right = walked(pairs, met, loop)
    last, _, _ = walked(pairs, behind, after)
    if met is None or behind != met or last is None or not are_words(pairs.decoder, last):
        return None
    return (left, right)
