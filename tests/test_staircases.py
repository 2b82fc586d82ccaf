"""The harms of all numbers of errors at once: rows [111], slopes [112], staircases [113, 114]."""

import math
import random
import unittest

import plain_sections
from helpers import (CODE, LOST, NO_COUNTS, NO_DECODERS, NO_KINDS, NOTHING, PHASE, check_raised, check_refused, mixed)
from makers import place_cases
from spoiltline.decoders import Decoder
from spoiltline.errors import InvalidCount, InvalidDecoder, InvalidKinds, NotPinned, TooMany
from spoiltline.growth import Growth
from spoiltline.harms import harm
from spoiltline.passings import all_kinds
from spoiltline.sections import is_pinned, sections
from spoiltline.staircases import harm_row, slope, staircase

COPY = Decoder(2, [[(0, "a"), (0, "b")]], [""])
LATER = Decoder(2, [[(0, "a"), (1, "")], [(0, "b"), (0, "c")]], ["", "zzz"])
FIXED = Decoder(2, [[(1, "a"), None], [(1, ""), (1, "")]], [None, "zz"])


def settled(row):
    """The staircase of a row that is long behind its start, by trying."""
    for period in range(1, 100):
        gain, start = row[-1] - row[-1 - period], len(row) - period
        while start > 0 and row[start - 1 + period] - row[start - 1] == gain:
            start -= 1
        if start < len(row) // 2:
            return (start, period, gain)
    return None


def ring(words, others, ends):
    """Sign 0 leads round through the states, writing these words; sign 1 leads to the same state, writing others."""
    states = len(words)
    return Decoder(2, [[((state + 1) % states, words[state]), (state, others[state])] for state in range(states)], ends)


class Examples(unittest.TestCase):
    def test_rows(self):
        self.assertEqual([harm_row(COPY, [("lost", 0)], 4), slope(COPY, [("lost", 0)]), staircase(COPY, [("lost", 0)])],
                         [[0, 1, 2, 3], (1, 1), (0, 1, 1)])
        self.assertEqual([harm_row(LATER, [("lost", 1)], 4), slope(LATER, [("lost", 1)]),
                          staircase(LATER, [("lost", 1)])], [[0, 3, 5, 7], (2, 1), (1, 1, 2)])
        self.assertEqual([harm_row(FIXED, [("lost", 1)], 3), slope(FIXED, [("lost", 1)]),
                          staircase(FIXED, [("lost", 1)])], [[0, 0, 0], (0, 1), (0, 1, 0)])
        kinds = [("lost", 2)]
        check_refused(self, InvalidKinds, kinds, slope, COPY, kinds)


class Rows(unittest.TestCase):
    def test_how_many(self):
        self.assertEqual(harm_row(COPY, LOST, 0), [])
        self.assertEqual(harm_row(COPY, LOST, 1), [0])
        self.assertEqual(harm_row(COPY, LOST, 400), list(range(400)))
        for many in (401, 1000, 10 ** 30, *NO_COUNTS):
            check_refused(self, InvalidCount, many, harm_row, COPY, LOST, many)
            check_refused(self, InvalidCount, many, harm_row, CODE, LOST, many)
            check_refused(self, InvalidCount, many, harm_row, NOTHING, LOST, many)

    def test_each_number_is_the_harm(self):
        met = 0
        for decoder, kinds in place_cases(111, 250):
            if is_pinned(decoder, kinds):
                row = harm_row(decoder, kinds, 40)
                self.assertEqual(row[:4], [harm(decoder, kinds, many) for many in range(4)])
                self.assertEqual(row[5], plain_sections.harm_of_sections(sections(decoder, kinds), 5))
                self.assertEqual(row, sorted(row))
                met += row[-1] > row[1]
        self.assertGreater(met, 20)

    def test_more_kinds_never_less(self):
        dice = random.Random(112)
        for decoder, kinds in place_cases(112, 200):
            fewer = [kind for kind in kinds if dice.random() < 0.5]
            if is_pinned(decoder, kinds) and is_pinned(decoder, fewer):
                one, other = harm_row(decoder, fewer, 30), harm_row(decoder, mixed(dice, kinds), 30)
                self.assertTrue(all(less <= more for less, more in zip(one, other)))

    def test_the_order_of_errors(self):
        for call in (slope, staircase, lambda decoder, kinds: harm_row(decoder, kinds, None)):
            for decoder in NO_DECODERS:
                check_refused(self, InvalidDecoder, decoder, call, decoder, None)
            for kinds in NO_KINDS:
                check_refused(self, InvalidKinds, kinds, call, PHASE, kinds)
        for call in (slope, staircase):
            check_raised(self, NotPinned, {}, call, CODE, LOST)
        for many in (0, 1, 400):
            check_raised(self, NotPinned, {}, harm_row, many=many, kinds=LOST, decoder=CODE)

    def test_too_many_just_where_sections_raises_it(self):
        words = [[(at + 1, "a"), (at + 1, "b")] for at in range(39)]
        decoder = Decoder(2, [*words, [None, None]], [None] * 39 + [""])
        for many in (0, 3):
            self.assertRaises(TooMany, harm_row, decoder, LOST, many)


class Staircases(unittest.TestCase):
    def check(self, decoder, kinds):
        row = harm_row(decoder, kinds, 400)
        told = staircase(decoder, kinds)
        self.assertEqual(told, settled(row))
        quotient = slope(decoder, kinds)
        self.assertEqual(math.gcd(*quotient), 1)
        self.assertEqual(told[2] * quotient[1], told[1] * quotient[0])
        return told

    def test_many_decoders(self):
        found = [self.check(decoder, kinds) for decoder, kinds in place_cases(113, 500) if is_pinned(decoder, kinds)]
        self.assertGreater(len([told for told in found if told[1] > 1]), 1)
        self.assertGreater(len([told for told in found if told[0] > 0]), 1)

    def test_nothing_grows(self):
        for kinds in ([], LOST, all_kinds(2)):
            self.assertEqual([slope(NOTHING, kinds), staircase(NOTHING, kinds), harm_row(NOTHING, kinds, 3)],
                             [(0, 1), (0, 1, 0), [0, 0, 0]])
        self.assertEqual([slope(COPY, []), staircase(COPY, [])], [(0, 1), (0, 1, 0)])

    def test_rings_of_two_and_three_states(self):
        for words, others, ends, kind, told in [
                (["a", "a"], ["ab", "ab"], ["a", ""], ("lost", 0), (0, 2, 2)),
                (["ab", "ab"], ["a", "a"], ["a", ""], ("put", 0), (0, 2, 4)),
                (["", "bb"], ["ab", "ba"], ["a", ""], ("lost", 0), (1, 2, 2)),
                (["aa", ""], ["ab", "ba"], ["", "a"], ("lost", 0), (1, 2, 2)),
                (["b", "b", "b"], ["a", "a", "a"], ["", "a", "a"], ("lost", 0), (0, 3, 3)),
                (["b", "", "bb"], ["ab", "ab", "ba"], ["", "a", "a"], ("turned", 0, 1), (0, 3, 3))]:
            self.assertEqual(self.check(ring(words, others, ends), [kind]), told)
        turning = Decoder(2, [[(1, "xx"), (0, "xy")], [(0, ""), (1, "yx")]], ["", ""])
        self.assertEqual(self.check(turning, [("lost", 0)]), (0, 2, 2))

    def test_the_ring_that_grows_more_is_greater_only_late(self):
        # Behind 0 and 1 the first error costs 42 letters and each other one 2, behind sign 2 each one costs 3.
        chains = [[(at + 1 if at + 1 < 14 else 27, "aaa")] * 3 for at in range(1, 14)]
        chains += [[(at + 1, "bbb")] * 3 for at in range(14, 27)]
        steps = [[(1, "aaa"), (14, "bbb"), (28, "")], *chains, [(27, "aa"), (27, "bb"), None],
                 [(28, "aaa"), (28, "bbb"), None]]
        decoder = Decoder(3, steps, [None] * 27 + ["", ""])
        kinds = [("turned", 0, 1)]
        self.assertEqual(harm_row(decoder, kinds, 60), [0, *[max(2 * many + 40, 3 * many) for many in range(1, 60)]])
        self.assertEqual((self.check(decoder, kinds), slope(decoder, kinds)), ((40, 1, 3), (3, 1)))

    def test_random_sections(self):
        dice = random.Random(114)
        periods = []
        for _ in range(250):
            told = drawn_sections(dice)
            growth = Growth(told)
            even = growth.even_from()
            row = growth.harms(even + growth.period + 900)
            self.assertEqual(row[6], plain_sections.harm_of_sections(told, 6))
            for many in range(even, len(row) - growth.period):
                self.assertEqual(row[many + growth.period] - row[many], growth.gains[-2])
            periods.append(growth.period)
        self.assertGreater(max(periods), 3)


def drawn_sections(dice):
    """What sections of some decoder might be: those without errors lead to higher numbers alone."""
    places = dice.randint(1, 5)
    told = {(-1, -2, 0): 0}
    for _ in range(dice.randint(1, 12)):
        start, goal, errors = dice.randrange(-1, places), dice.choice([-2, *range(places)]), dice.randint(0, 4)
        told[start, goal, 1 if 0 <= goal <= start else errors] = dice.randint(0, 6)
    for place in range(places):
        told.setdefault((-1, place, dice.randint(1, 3)), dice.randint(0, 3))
        told.setdefault((place, -2, dice.randint(1, 3)), dice.randint(0, 9))
    return sorted((*mark, cost) for mark, cost in told.items())


if __name__ == "__main__":
    unittest.main()
