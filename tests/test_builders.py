"""Rows [161], decoders made from them [162, 164], subadditive ones [163]."""

import itertools
import random
import unittest

from helpers import NO_COUNTS, NO_INTEGERS, Foreign, check_refused
from makers import drawn_row
from spoiltline.builders import built, built_accepting, is_row, is_subadditive, row_at
from spoiltline.decoders import Decoder
from spoiltline.errors import InvalidCount, InvalidRow
from spoiltline.harms import harm, worst
from spoiltline.passings import harm_of, is_kind, plain_harm

ROW = ([0, 0, 3], 2, 4)
NO_ROWS = (None, 0, "row", [], (), [[0], 1, 0], ([0], 1), ([0], 1, 0, 0), ([], 1, 0), ([1], 1, 0), ([0] * 9, 1, 0),
           ([0, 41], 1, 5), ([0, 3, 2], 1, 5), ([0, -1], 1, 5), ([0], 0, 1), ([0], 2, 1), ([0, 1, 2, 3], 5, 3),
           ([0] * 8, 5, 3), ([0], 1, 13), ([0], 1, -1), ([0, 5, 6], 3, 2), ([0, 5, 6], 2, 0), ([0, True], 1, 1),
           ([False], 1, 1), ([0], True, 1), ([0], 1, True), ([0.0], 1, 1), ([0], 1.0, 1), ([0], 1, 1.0), ("0", 1, 1),
           ({0: 0}, 1, 1), (0, 1, 1), ([0, None], 1, 1), ([0, [1]], 1, 1), ([0], None, 1), ([0], 1, None), Foreign())
CALLS = (built, is_subadditive, built_accepting)


def numbers(row, many):
    """The numbers that a row tells, by the words of [161]."""
    told = list(row[0])
    while len(told) < many:
        told.append(told[-row[1]] + row[2])
    return told[:many]


def rows(seed, many):
    dice = random.Random(seed)
    return [drawn_row(dice) for _ in range(many)]


class Examples(unittest.TestCase):
    def test_rows(self):
        self.assertEqual([is_row(ROW), [row_at(ROW, many) for many in range(7)], is_subadditive(ROW),
                          is_row(([0, 5], 1, 0)), is_row(([0, 5, 6], 3, 2))],
                         [True, [0, 0, 3, 4, 7, 8, 11], False, True, False])
        self.assertEqual([is_subadditive(([0, 2, 3], 1, 1)), built_accepting(([0, 5], 1, 4)), built_accepting(ROW)],
                         [True, None, None])
        given = ([1], 1, 0)
        check_refused(self, InvalidRow, given, row_at, given, 2)

    def test_built_ones(self):
        told = built(ROW)
        self.assertEqual([[harm(told[0], told[1], many) for many in range(5)], told[0].states <= 40],
                         [[0, 0, 3, 4, 7], True])
        other = built_accepting(([0, 2, 3], 1, 1))
        self.assertEqual([harm(other[0], other[1], many) for many in range(5)], [0, 2, 3, 4, 5])


class Rows(unittest.TestCase):
    def test_what_is_no_row(self):
        for value in NO_ROWS:
            self.assertIs(is_row(value), False, value)
            check_refused(self, InvalidRow, value, row_at, value, None)
            for call in CALLS:
                check_refused(self, InvalidRow, value, call, value)

    def test_what_just_is_one(self):
        for row in [([0], 1, 0), ([0], 1, 12), ([0] * 8, 4, 12), ([0, 5, 6], 2, 1), ((0, *[40] * 7), 4, 0), ((0, 1), 1, 3)]:
            self.assertIs(is_row(row), True, row)
        self.assertIs(is_row(([0, 12], 2, 12)), True)
        self.assertIs(is_row(([0, 13], 2, 12)), False)

    def test_numbers(self):
        for row in rows(161, 150):
            told = numbers(row, 401)
            for many in (*range(20), len(row[0]), 100, 399, 400):
                self.assertEqual(row_at(row, many), told[many])
            self.assertEqual(told, sorted(told))
            self.assertEqual(row_at(many=5, row=(tuple(row[0]), *row[1:])), told[5])
        for many in (*NO_COUNTS, *NO_INTEGERS):
            check_refused(self, InvalidCount, many, row_at, ROW, many)

    def test_subadditive_ones(self):
        met = {True: 0, False: 0}
        for row in rows(163, 200):
            told = numbers(row, 240)
            found = all(told[one + other] <= told[one] + told[other]
                        for one in range(120) for other in range(one, 120))
            self.assertIs(is_subadditive(row), found)
            self.assertIs(is_subadditive((tuple(row[0]), *row[1:])), found)
            met[found] += 1
        self.assertGreater(min(met.values()), 40)


class Built(unittest.TestCase):
    def check(self, row, told):
        self.assertIs(type(told), tuple)
        decoder, kinds = told
        self.assertIsInstance(decoder, Decoder)
        self.assertIs(type(kinds), list)
        self.assertTrue(all(is_kind(kind, decoder.signs) for kind in kinds))
        self.assertEqual([harm(decoder, kinds, many) for many in range(13)], numbers(row, 13), row)

    def test_harms(self):
        extremes = [([0], 1, 0), ([0], 1, 12), ([0] * 8, 4, 12), ([0, 40], 1, 12), ([0, *[40] * 7], 4, 0),
                    ([0, 0, 0, 12], 4, 12), ([0, 4, 7, 13, 16, 22, 31, 40], 1, 10), ([0, 1, 1, 7], 3, 9)]
        for row in [*extremes, *rows(162, 150)]:
            self.check(row, built(row))
            self.assertEqual(built(row), built((tuple(row[0]), *row[1:])))

    def test_more_errors(self):
        for row in rows(164, 25):
            for told in (built(row), built_accepting(row)):
                if told is not None:
                    for many in (20, 37):
                        self.assertEqual(harm(told[0], told[1], many), row_at(row, many))

    def test_worst_passings(self):
        for row in rows(165, 25):
            for told in (built(row), built_accepting(row)):
                if told is not None:
                    for many in (1, 2, 5, 12):
                        self.assertEqual(harm_of(told[0], worst(told[0], told[1], many)), row_at(row, many))

    def test_plain_trying(self):
        for row in rows(166, 40):
            for told in (built(row), built_accepting(row)):
                if told is not None:
                    for many, steps in itertools.product((1, 2), (5, 7)):
                        self.assertLessEqual(plain_harm(told[0], told[1], many, steps), row_at(row, many))

    def test_accepting_ones(self):
        met = 0
        for row in [([0], 1, 3), ([0, 40], 1, 3), ([0, 40, 40], 2, 0), ([0, 20, 40, 40], 1, 1), ([0] * 8, 4, 0),
                    ([0, 6, 7, 8], 2, 4), ([0, 3, 5, 6], 4, 8), *rows(167, 300)]:
            told = numbers(row, 60)
            loose = any(told[many + 1] - told[many] > 3 for many in range(len(row[0]) - row[1], 50))
            found = built_accepting(row)
            self.assertEqual(found is None, loose or not is_subadditive(row), row)
            self.assertEqual(found, built_accepting((tuple(row[0]), *row[1:])))
            if found is not None:
                self.check(row, found)
                self.assertTrue(all(end is not None for end in found[0].ends))
                self.assertTrue(all(entry is not None for steps in found[0].steps for entry in steps))
                met += row[0][-1] > 6
        self.assertGreater(met, 30)

    def test_just_three_more_and_four(self):
        self.assertIsNotNone(built_accepting(([0, 3], 1, 3)))
        self.assertIsNone(built_accepting(([0, 4], 1, 4)))
        self.assertIsNotNone(built_accepting(([0, 7], 1, 3)))
        self.assertIsNone(built_accepting(([0, 7, 11], 2, 7)))
        self.assertIsNone(built_accepting(([0, 1], 1, 2)))
        self.assertIsNotNone(built_accepting(([0, 7, 11], 1, 3)))

    def test_answers_are_new_lists(self):
        for call in (built, built_accepting):
            told = call(([0, 2, 3], 1, 1))
            told[1].clear()
            self.assertNotEqual(call(([0, 2, 3], 1, 1))[1], [])


if __name__ == "__main__":
    unittest.main()
