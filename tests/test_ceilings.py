"""Ceilings [96]."""

import random
import unittest

from helpers import (CODE, HALF, LATE, LOST, NO_COUNTS, NO_DECODERS, NO_KINDS, NOTHING, PHASE, TURN, Foreign, bounded,
                     check_raised, check_refused)
from plain import formula
from spoiltline.decoders import Decoder
from spoiltline.distances import distance
from spoiltline.endless import least_endless
from spoiltline.errors import Endless, InvalidCount, InvalidDecoder, InvalidKinds, NoLag
from spoiltline.gaps import gaps
from spoiltline.harms import ceiling, harm, is_ceiling
from spoiltline.lags import lag_at
from spoiltline.pairs import Pairs


def is_form(pairs, many, number, value):
    """The form of a ceiling, by the words of the point."""
    for knot, errors, row in value:
        if errors > many or not row or [lag for lag, _ in row] != sorted({lag for lag, _ in row}):
            return False
        for lag, total in row:
            try:
                lag_at(pairs, knot, lag, pairs.knots[knot][0])
            except NoLag:
                return False
            if abs(lag) > 400 or not 0 <= total <= number:
                return False
    return True


def plain_ceiling(decoder, kinds, many, number, value):
    """Whether a list of tuples of counts and rows is a ceiling, by the words of the point."""
    pairs = Pairs(decoder, kinds)
    least = least_endless(decoder, kinds)
    if (least is not None and least <= many) or not is_form(pairs, many, number, value):
        return False
    ahead = [(None, 0, [(0, 0)], None)]
    ahead += [(knot, errors, row, pair) for knot, errors, row in value for pair in pairs.knots[knot]]
    return all(is_held(pairs, many, number, value, *told, *gap) for told in ahead for gap in gaps(pairs, told[3], many))


def is_held(pairs, many, number, value, knot, errors, row, pair, goal, left, right, more):
    together = errors + more
    if together > many or (goal is not None and together + pairs.errors_from(goal) > many):
        return True
    lags = [(("", "") if pair is None else lag_at(pairs, knot, lag, pair), total) for lag, total in row]

    def least(behind):
        return min(total + distance(lag[0] + left + behind[1], lag[1] + right + behind[0]) for lag, total in lags)

    if goal is None:
        return least(("", "")) <= number
    met = pairs.knot_of(goal)
    return any(all(least(lag_at(pairs, met, lag, goal)) <= total for lag, total in other)
               for index, many_errors, other in value if (index, many_errors) == (met, together))


class Examples(unittest.TestCase):
    def test_half(self):
        lost = [("lost", 0)]
        paper = ceiling(HALF, lost, 3)
        self.assertEqual([is_ceiling(HALF, lost, 3, number, paper) for number in (1, 2)]
                         + [is_ceiling(HALF, lost, 3, 2, [])], [False, True, False])
        self.assertIs(is_ceiling(HALF, lost, 1, 1, [(0, 0, [(0, 0)]), (1, 1, ((0, 1), (1, 0)))]), True)


class Told(unittest.TestCase):
    def test_of_the_harm_and_of_no_less(self):
        for decoder, kinds, errors in bounded(101, 40, 3):
            paper, told = ceiling(decoder, kinds, errors), harm(decoder, kinds, errors)
            self.assertIs(is_ceiling(decoder, kinds, errors, told, paper), True)
            for more in (1, 7):
                self.assertIs(is_ceiling(decoder, kinds, errors, told + more, paper), True)
            if told > 0:
                self.assertIs(is_ceiling(decoder, kinds, errors, told - 1, paper), False)

    def test_its_form(self):
        for decoder, kinds, errors in bounded(102, 12, 2):
            paper = ceiling(decoder, kinds, errors)
            self.assertIs(type(paper), list)
            for entry in paper:
                self.assertEqual([type(part) for part in entry], [int, int, list])
                self.assertEqual({type(part) for part in entry[2]}, {tuple})
            again = ceiling(decoder, kinds, errors)
            for _, _, row in again:
                row.clear()
            again.clear()
            self.assertEqual(ceiling(decoder, kinds, errors), paper)

    def test_twelve_errors(self):
        for decoder, kinds in [(CODE, LOST), (HALF, [("lost", 0), ("put", 0)]), (LATE, TURN)]:
            told = harm(decoder, kinds, 12)
            self.assertIs(is_ceiling(decoder, kinds, 12, told, ceiling(decoder, kinds, 12)), True)

    def test_rows_of_several_lags(self):
        # For one of these the chosen lags alone tell more than the harm.
        decoder = Decoder(2, [[(1, "aa"), (1, "aaa")], [(0, "aa"), (2, "aaa")], [(3, "aaa"), (2, "a")],
                              [(0, "a"), (2, "aa")]], ["a", "aa", "", ""])
        kinds = [("lost", 1), ("turned", 0, 1), ("turned", 1, 0)]
        paper = ceiling(decoder, kinds, 3)
        self.assertIs(is_ceiling(decoder, kinds, 3, 15, paper), True)
        self.assertIs(plain_ceiling(decoder, kinds, 3, 15, paper), True)


def changes(dice, paper, many):
    """Papers that are a little unlike this one."""
    entry = dice.randrange(len(paper))
    knot, errors, row = paper[entry]
    part = dice.randrange(len(row))
    lag, total = row[part]
    yield paper[:entry] + paper[entry + 1:]
    yield [*paper[:entry], (knot, errors, [*row[:part], (lag, max(0, total - 1)), *row[part + 1:]]), *paper[entry + 1:]]
    yield [*paper[:entry], (knot, errors, [*row[:part], (lag, total + 1), *row[part + 1:]]), *paper[entry + 1:]]
    yield [*paper[:entry], (knot, errors, row[:part] + row[part + 1:]), *paper[entry + 1:]]
    yield [*paper[:entry], (knot, errors, sorted([*row, (max(row)[0] + dice.randint(1, 3), total)])), *paper[entry + 1:]]
    yield [*paper, (knot, errors, [(lag + dice.randint(1, 3), total)])]
    yield [*paper, (knot, min(many, errors + 1), row)]
    yield [*paper[:entry], (knot, errors + 1, row), *paper[entry + 1:]]
    yield [*paper, (knot, errors, [(lag, total + dice.randint(0, 2))])]
    yield [*paper, (knot, 0, row)]


class Judged(unittest.TestCase):
    def test_against_the_words_of_the_point(self):
        dice, met = random.Random(103), {True: 0, False: 0}
        for decoder, kinds, errors in bounded(104, 20, 2):
            told, paper = harm(decoder, kinds, errors), ceiling(decoder, kinds, errors)
            for value in [paper, *(changes(dice, paper, errors) if paper else [])]:
                number = told + dice.choice([0, 0, 1, -1])
                if number >= 0:
                    right = plain_ceiling(decoder, kinds, errors, number, value)
                    self.assertIs(is_ceiling(decoder, kinds, errors, number, value), right)
                    met[right] += 1
                    self.assertTrue(not right or number >= (formula(decoder, kinds, errors, 12, 10) or 0))
        self.assertGreater(min(met.values()), 100)

    def setUp(self):
        self.lost = [("lost", 0)]
        self.paper = [(0, 0, [(0, 0)]), (1, 1, [(0, 1), (1, 0)])]

    def held(self, value, many=1, number=1):
        return is_ceiling(HALF, self.lost, many, number, value)

    def test_another_order_repeats_and_tuples(self):
        first, second = self.paper
        for value in ([second, first], [first, second, first, second], (first, second), [(0, 0, ((0, 0),)), second],
                      ((1, 1, ((0, 1), (1, 0))), first), [first, second, (1, 1, [(0, 1), (1, 1)])]):
            self.assertIs(self.held(value), True)

    def test_each_part_broken(self):
        first, second = self.paper
        self.assertIs(self.held(self.paper), True)
        for value in ([first], [second], [], [first, (1, 0, second[2])], [(1, 0, [(0, 0)]), second],
                      [first, (1, 1, [(0, 0), (1, 0)])], [first, (1, 1, [(0, 0)])], [first, (1, 1, [])],
                      [first, second, (1, 1, [])], [first, (1, 1, [(1, 0), (0, 1)])], [first, (1, 1, [(0, 1), (0, 1)])],
                      [first, (1, 1, [(0, 1), (0, 2)])], [first, (1, 1, [(0, 2), (1, 0)])], [first, second, (1, 2, [(0, 1)])],
                      [first, second, (2, 1, [(0, 1)])], [first, second, (-1, 1, [(0, 1)])],
                      [first, second, (0, 1, [(401, 1)])], [first, second, (0, 1, [(-401, 1)])],
                      [first, second, (0, 0, [(0, -1)])], [first, second, (0, -1, [(0, 0)])]):
            self.assertIs(self.held(value), False, value)
        for lag in (400, -400):
            self.assertIs(self.held([first, second, (0, 1, [(lag, 1)])], number=402), True)
            self.assertIs(self.held([first, second, (0, 1, [(lag, 1)])]), False)

    def test_a_lag_that_is_none_of_the_knot(self):
        word = Decoder(1, [[(0, "ab")]], [""])
        paper = ceiling(word, self.lost, 1)
        self.assertIs(is_ceiling(word, self.lost, 1, 2, paper), True)
        self.assertIs(is_ceiling(word, self.lost, 1, 2, [*paper, (0, 1, [(1, 1)])]), False)
        self.assertIs(is_ceiling(CODE, LOST, 1, 2, [*ceiling(CODE, LOST, 1), (0, 1, [(1, 2)])]), False)

    def test_bad_knots(self):
        paper = ceiling(PHASE, self.lost, 0)
        self.assertIs(is_ceiling(PHASE, self.lost, 0, 0, paper), True)
        self.assertIs(is_ceiling(PHASE, self.lost, 0, 0, [*paper, (1, 0, [(0, 0)])]), False)

    def test_values_of_other_kinds(self):
        first, second = self.paper
        for value in (None, True, 0, "", "[]", {}, {0: 0}, Foreign(), iter(self.paper), range(2), object()):
            self.assertIs(self.held(value), False)
        for entry in (None, True, (), [0, 0, [(0, 0)]], (0, 0), (0, 0, [(0, 0)], 0), (False, 0, [(0, 0)]), Foreign(),
                      (0, False, [(0, 0)]), (0, 0.0, [(0, 0)]), ("0", 0, [(0, 0)]), (None, 0, [(0, 0)]), (0, 0, None),
                      (0, 0, [[0, 0]]), (0, 0, [(0,)]), (0, 0, [(0, 0, 0)]), (0, 0, [(False, 0)]), (0, 0, [(0, False)]),
                      (0, 0, [(0.0, 0)]), (0, 0, [(None, 0)]), (0, 0, [(0, None)]), (0, 0, {0: 0}), (0, 0, [None]),
                      (0, 0, "0"), (0, 0, 0), (0, 0, (0, 0)), (0, 0, Foreign()), (0, 0, [Foreign()]), (0, 0, [("0", 0)])):
            self.assertIs(self.held([first, second, entry]), False, entry)
            self.assertIs(self.held([entry, first, second]), False)

    def test_sums_above_the_number(self):
        first, second = self.paper
        self.assertIs(self.held([first, second, (0, 1, [(0, 2)])], number=2), True)
        self.assertIs(self.held([first, second, (0, 1, [(0, 2)])]), False)

    def test_nothing_is_changed(self):
        first = self.held(self.paper)
        self.assertEqual((first, self.paper), (True, [(0, 0, [(0, 0)]), (1, 1, [(0, 1), (1, 0)])]))

    def test_where_the_harm_is_endless(self):
        for value in ([], self.paper, None, [(0, 0, [(0, 0)])], ceiling(PHASE, self.lost, 0)):
            for many, number in ((1, 0), (1, 400), (12, 10 ** 6)):
                self.assertIs(is_ceiling(PHASE, self.lost, many, number, value), False)
        check_raised(self, Endless, {"errors": 1}, ceiling, PHASE, self.lost, 1)

    def test_no_line_is_accepted(self):
        self.assertEqual(ceiling(NOTHING, LOST, 5), [])
        self.assertIs(is_ceiling(NOTHING, LOST, 5, 0, ()), True)
        self.assertIs(is_ceiling(NOTHING, LOST, 5, 0, [(0, 0, [(0, 0)])]), False)

    def test_the_order_of_errors(self):
        for decoder in NO_DECODERS:
            check_refused(self, InvalidDecoder, decoder, is_ceiling, decoder, None, None, None, None)
        for kinds in NO_KINDS:
            check_refused(self, InvalidKinds, kinds, is_ceiling, CODE, kinds, None, None, None)
        for count in NO_COUNTS:
            check_refused(self, InvalidCount, count, is_ceiling, CODE, LOST, count, None, None)
            check_refused(self, InvalidCount, count, is_ceiling, CODE, LOST, 1, count, None)
            check_refused(self, InvalidCount, count, is_ceiling, PHASE, self.lost, 5, count, None)
        self.assertIs(is_ceiling(value=self.paper, number=1, many=1, kinds=self.lost, decoder=HALF), True)


if __name__ == "__main__":
    unittest.main()
