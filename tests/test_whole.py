"""What is promised of the whole [9]: several modules tell the same numbers."""

import random
import unittest

from helpers import LOST
from makers import drawn_row, full_code
from spoiltline.builders import built, built_accepting, row_at
from spoiltline.codecs import copier, escaped, run_lengths, shifted, with_check, with_marker
from spoiltline.codes import code_price, reader
from spoiltline.desk import Desk
from spoiltline.endless import least_endless
from spoiltline.errors import TooMany
from spoiltline.harms import ceiling, harm, is_ceiling, worst
from spoiltline.passings import all_kinds, harm_of
from spoiltline.returning import comes_back, one_word, period, whole_row
from spoiltline.sections import is_pinned
from spoiltline.staircases import harm_row, slope, staircase
from spoiltline.steady import is_steady, price, spare

MANY = 4


def usual():
    """(decoder, kinds) of the usual kinds."""
    codecs = [*[copier(signs) for signs in (1, 2, 3)], escaped(2, 1), escaped(3, 0), shifted(2), shifted(3),
              run_lengths(1), run_lengths(2)]
    codecs += [with_check(copier(2), 1), with_check(shifted(2), 1), with_marker(run_lengths(1)), with_marker(copier(2))]
    for decoder in codecs:
        kinds = all_kinds(decoder.signs)
        for told in ([kinds[0]], kinds[:decoder.signs], [kind for kind in kinds if kind[0] == "turned"], kinds[-2:]):
            yield decoder, told


def codes():
    dice = random.Random(9)
    for _ in range(12):
        yield reader(full_code(dice, 2, 6), 2), LOST


def rows():
    dice = random.Random(99)
    for _ in range(15):
        row = drawn_row(dice)
        for told in (built(row), built_accepting(row)):
            if told is not None:
                yield told


class Whole(unittest.TestCase):
    def check(self, decoder, kinds):
        """Compares all that is told of the harms of few errors; returns what holds."""
        least = least_endless(decoder, kinds)
        told = [harm(decoder, kinds, many) for many in range(MANY)]
        self.assertEqual(told, [None if least is not None and many >= least else number
                                for many, number in enumerate(told)])
        desk = Desk(decoder)
        for kind in kinds:
            desk.do(" ".join(str(part) for part in kind))
        self.assertEqual(desk.do("endless"), ["never endless" if least is None else f"endless from {least}"])
        for many, number in enumerate(told):
            self.assertEqual(desk.do(f"harm {many}"),
                             [f"harm {many} errors {'endless' if number is None else number}"])
            if number is not None:
                self.assertEqual(harm_of(decoder, worst(decoder, kinds, many)), number)
                self.assertTrue(is_ceiling(decoder, kinds, many, number, ceiling(decoder, kinds, many)))
        return (self.check_pinned(decoder, kinds, told, desk), self.check_steady(decoder, kinds, told, desk))

    def check_pinned(self, decoder, kinds, told, desk):
        if not is_pinned(decoder, kinds):
            self.assertEqual(desk.do("row 4"), ["not pinned"])
            return False
        row = harm_row(decoder, kinds, 100)
        self.assertEqual(row[:MANY], told)
        self.assertEqual(desk.do("row 4"), ["row " + " ".join(str(number) for number in told)])
        start, errors, gain = staircase(decoder, kinds)
        self.assertEqual(slope(decoder, kinds)[0] * errors, gain * slope(decoder, kinds)[1])
        self.assertTrue(all(row[many + errors] == row[many] + gain for many in range(start, 100 - errors)))
        return True

    def check_steady(self, decoder, kinds, told, desk):
        if not is_steady(decoder, kinds):
            self.assertEqual(desk.do("price"), ["not steady"])
            return False
        cost, more = price(decoder, kinds), spare(decoder, kinds)
        self.assertEqual((cost is None, more is None), (told[1] is None, told[1] is None))
        if cost is None:
            self.assertEqual(desk.do("price"), ["price endless"])
            return True
        self.assertEqual(desk.do("price"), [f"price {cost[0]} / {cost[1]}"])
        for many, number in enumerate(told):
            self.assertTrue(cost[0] * many <= number * cost[1] <= cost[0] * many + more * cost[1])
        if is_pinned(decoder, kinds):
            self.assertEqual(slope(decoder, kinds), cost)
        if comes_back(decoder) and one_word(decoder) is None:
            self.check_whole_row(decoder, kinds, told, cost[0])
        return True

    def check_whole_row(self, decoder, kinds, told, cost):
        found = whole_row(decoder, kinds, MANY - 1)
        if found is None:
            self.assertTrue(all(told[many] > cost * many for many in range(1, MANY)))
            return
        errors, row = found
        self.assertEqual(row, told[:errors])
        self.assertEqual(period(decoder, kinds) % errors, 0)
        for many, number in enumerate(told):
            self.assertEqual(number, row[many % errors] + cost * (many - many % errors))

    def test_usual_kinds(self):
        self.assertEqual({self.check(decoder, kinds) for decoder, kinds in usual()},
                         {(True, True), (True, False), (False, True), (False, False)})

    def test_codes(self):
        self.assertEqual({self.check(decoder, kinds)[1] for decoder, kinds in codes()}, {True})
        dice = random.Random(9)
        for decoder, kinds in codes():
            cost = price(decoder, kinds)
            self.assertEqual(code_price(full_code(dice, 2, 6), 2), None if cost is None else cost[0])

    def test_rows(self):
        for decoder, kinds in rows():
            self.check(decoder, kinds)
        dice = random.Random(99)
        for _ in range(10):
            row = drawn_row(dice)
            desk = Desk(built(row)[0])
            for kind in built(row)[1]:
                desk.do(" ".join(str(part) for part in kind))
            self.assertEqual(desk.do("\n".join(f"harm {many}" for many in range(13))),
                             [f"harm {many} errors {row_at(row, many)}" for many in range(13)])

    def test_too_many_is_told_alike(self):
        words = [[(at + 1, "a"), (at + 1, "b")] for at in range(39)]
        decoder = type(copier(1))(2, [*words, [None, None]], [None] * 39 + [""])
        self.assertRaises(TooMany, harm, decoder, LOST, 1)
        self.assertRaises(TooMany, harm_row, decoder, LOST, 2)
        self.assertEqual(Desk(decoder).do("lost 0\nharm 1\nrow 2\nprice"),
                         ["kinds 1", "harm 1 errors too many", "row too many", "not steady"])


if __name__ == "__main__":
    unittest.main()
