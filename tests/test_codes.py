"""Prefix codes [141], their readers [142], what lost signs do to them [143], what mends them [144]."""

import itertools
import random
import unittest

import plain_steady
from helpers import NO_INTEGERS, Foreign, check_refused
from makers import full_code
from spoiltline.codes import code_price, is_code, is_full, is_safe, mends, reader
from spoiltline.endless import least_endless
from spoiltline.errors import InvalidCode, InvalidSigns, TooMany
from spoiltline.harms import harm
from spoiltline.passings import came, sent
from spoiltline.steady import is_steady, price

CODE = [(0,), (1, 0), (1, 1)]
EVEN = [(0, 0), (0, 1), (1, 0), (1, 1)]
NO_SIGNS = (0, 6, -1, 10 ** 30, *NO_INTEGERS)
# No codes for 2 signs.
NO_CODES = ([(0,), (0, 1)], [(0, 1), (0,)], [(0,), (1,), (0,)], [(0,), (1,), ()], [()], [(0,)], [], [(0,), (2,)],
            [(0,), (1, -1)], [[0], [1]], [(0,), [1]], [(0,), (True,)], [(0,), (1.0,)], None, 0, "01", {(0,): 1, (1,): 1},
            {(0,), (1,)}, [(0,), None], [(0,), "1"], ((0,), (1,), (1, 0)), (0, 1), Foreign())
CALLS = (is_full, reader, is_safe, code_price, mends)


def comb(signs, many):
    """A full code of lines that are 1 longer each: 0, 10, 110, .. for two signs."""
    lines, ahead = [], ()
    while len(lines) + signs <= many:
        lines += [(*ahead, sign) for sign in range(signs - 1)]
        ahead = (*ahead, signs - 1)
    return [*lines, ahead]


def plain_reading(code, line):
    """What is read of a line, line of the code by line of the code."""
    text, rest = "", line
    while True:
        met = [at for at, one in enumerate(code) if rest[:len(one)] == one]
        if not met:
            return text
        text, rest = text + "abcdefghijklmnopqrstuvwxyz"[met[0]], rest[len(code[met[0]]):]


def many_codes(seed, many, most=7):
    dice = random.Random(seed)
    for _ in range(many):
        signs = dice.choice([2, 2, 2, 3, 4])
        yield full_code(dice, signs, most), signs


class Examples(unittest.TestCase):
    def test_codes(self):
        self.assertEqual([is_code(CODE, 2), is_full(CODE, 2), is_full(CODE[:2], 2), is_code([(0,), (0, 1)], 2),
                          reader(CODE, 2).written((1, 0, 0, 1, 1))], [True, True, False, False, "bac"])
        self.assertEqual([reader(CODE, 2).states, is_safe(CODE, 2), code_price(CODE, 2), mends(CODE, 2)],
                         [2, True, 2, (0,)])
        self.assertEqual([is_safe(EVEN, 2), code_price(EVEN, 2), mends(EVEN, 2)], [False, None, None])
        given = [(0,), (1, 0)]
        check_refused(self, InvalidCode, given, reader, given, 2)


class Codes(unittest.TestCase):
    def test_what_is_no_code(self):
        for value in NO_CODES:
            self.assertIs(is_code(value, 2), False, value)
            for call in CALLS:
                check_refused(self, InvalidCode, value, call, value, 2)
        for signs in NO_SIGNS:
            self.assertIs(is_code(CODE, signs), False)
            for call in CALLS:
                check_refused(self, InvalidSigns, signs, call, CODE, signs)
                check_refused(self, InvalidSigns, signs, call, None, signs)

    def test_numbers_of_lines(self):
        five = [(one, other) for one in range(5) for other in range(5)]
        self.assertEqual([is_code(five, 5), is_code([(0,)], 1), is_code([(0,), (0, 0)], 1)], [True, False, False])
        lines = [(0, *line) for line in itertools.product(range(3), repeat=3)]
        self.assertEqual([is_code(lines[:26], 3), is_code(lines, 3), is_code(comb(2, 26), 2), is_code(comb(2, 27), 2)],
                         [True, False, True, False])
        check_refused(self, InvalidCode, lines, reader, lines, 3)

    def test_against_the_words(self):
        dice = random.Random(141)
        met = set()
        for _ in range(1500):
            signs = dice.randint(1, 3)
            value = [tuple(dice.randrange(signs) for _ in range(dice.randint(1, 3))) for _ in range(dice.randint(1, 5))]
            told = 2 <= len(value) and not any(one == other[:len(one)] for one, other in
                                               itertools.permutations(value, 2))
            self.assertIs(is_code(value, signs), told)
            self.assertIs(is_code(tuple(value), signs), told)
            if told:
                full = all(any(line[:len(one)] == one for one in value) for line in itertools.product(range(signs), repeat=3))
                self.assertIs(is_full(value, signs), full)
                met.add((full, len(value)))
                if not full:
                    check_refused(self, InvalidCode, value, reader, value, signs)
        self.assertTrue({(True, 2), (True, 3), (False, 2), (False, 3)} <= met, met)

    def test_full_ones_and_ones_that_lack_a_line(self):
        for code, signs in many_codes(142, 60, 26):
            self.assertIs(is_full(code, signs), True)
            if len(code) > 2:
                self.assertIs(is_full(code[1:], signs), False)
                less = code[:-1]
                for call in CALLS[1:]:
                    check_refused(self, InvalidCode, less, call, less, signs)
        long = comb(2, 26)
        self.assertEqual((len(long), is_full(long, 2), is_full([(0,) * 400, (1,)], 2)), (26, True, False))


class Readers(unittest.TestCase):
    def test_what_is_read(self):
        dice = random.Random(143)
        for code, signs in many_codes(143, 60, 26):
            decoder = reader(code, signs)
            self.assertEqual(reader(signs=signs, code=tuple(code)), decoder)
            self.assertEqual((decoder.signs, set(decoder.ends)), (signs, {""}))
            for _ in range(10):
                line = tuple(dice.randrange(signs) for _ in range(dice.randint(0, 20)))
                self.assertEqual(decoder.written(line), plain_reading(code, line))

    def test_states_in_order(self):
        for code, signs in many_codes(144, 60, 26):
            decoder = reader(code, signs)
            states = sorted({line[:many] for line in code for many in range(len(line))}, key=lambda one: (len(one), one))
            self.assertEqual(decoder.states, len(states))
            for number, line in enumerate(states):
                self.assertEqual(decoder.state_after(line), number)
            for line in code:
                self.assertEqual(decoder.state_after(line), 0)
        self.assertEqual(reader([(1, 1), (0,), (1, 0)], 2).steps, (((0, "b"), (1, "")), ((0, "c"), (0, "a"))))


class Lost(unittest.TestCase):
    def test_safe_ones(self):
        met = set()
        for code, signs in many_codes(145, 120):
            decoder, kinds = reader(code, signs), [("lost", sign) for sign in range(signs)]
            self.assertIs(is_steady(decoder, kinds), True)
            safe = least_endless(decoder, kinds) is None
            self.assertIs(is_safe(code, signs), safe)
            met.add(safe)
            if not safe:
                self.assertEqual((code_price(code, signs), least_endless(decoder, kinds)), (None, 1))
                continue
            told = code_price(code, signs)
            self.assertEqual((told, 1), price(decoder, kinds))
            self.assertIsNotNone(mends(code, signs))
            row = [harm(decoder, kinds, many) for many in range(6)]
            self.assertTrue(all(more >= less + told for less, more in zip(row, row[1:])))
            self.assertEqual(row[5] - row[4], told)
        self.assertEqual(met, {True, False})

    def test_lines_of_one_length(self):
        for signs, many in ((2, 1), (2, 2), (2, 4), (3, 1), (3, 2), (5, 1), (5, 2)):
            code = list(itertools.product(range(signs), repeat=many))
            self.assertEqual([is_safe(code, signs), code_price(code, signs), mends(code, signs)],
                             [True, 1, ()] if many == 1 else [False, None, None])

    def test_a_lost_sign_may_cost_many_letters(self):
        prices = {code_price(code, signs) for code, signs in many_codes(146, 80)}
        self.assertTrue({None, 1, 2, 4} <= prices, prices)


class Mending(unittest.TestCase):
    def test_against_plain_trying(self):
        met = set()
        for code, signs in many_codes(147, 120, 6):
            decoder, told = reader(code, signs), mends(code, signs)
            found = plain_steady.together(decoder, 7 if signs == 2 else 4, lambda states: states == {0})
            if found is None:
                self.assertTrue(told is None or len(told) > 4)
            else:
                self.assertEqual(len(told), len(found))
            if told is not None:
                self.assertEqual({plain_steady.leads(decoder, state, told)[0] for state in range(decoder.states)}, {0})
            met.add(told if told is None else len(told))
        self.assertTrue({None, 0, 1, 2, 3} <= met, met)

    def test_long_ones(self):
        self.assertEqual([mends(comb(2, many), 2) for many in (3, 12, 26)], [(0,)] * 3)
        code = [(0, 0), (1, 0, 0, 1), (1, 1, 1), (1, 0, 0, 0, 0), (1, 0, 0, 0, 1), (1, 1, 0), (0, 1, 1), (0, 1, 0),
                (1, 0, 1)]
        found = plain_steady.together(reader(code, 2), 11, lambda states: states == {0})
        self.assertEqual((len(found), len(mends(code, 2))), (11, 11))

    def test_too_many_sets_alone_are_refused(self):
        for code, signs in many_codes(149, 60, 26):
            try:
                told = mends(code, signs)
            except TooMany as caught:
                self.assertGreater(caught.count, 20000)
                self.assertGreater(reader(code, signs).states, 14)
            else:
                self.assertTrue(told is not None or not is_safe(code, signs))

    def test_all_is_read_rightly_behind_it(self):
        for code, signs in many_codes(148, 40):
            line, decoder = mends(code, signs), reader(code, signs)
            if line is not None:
                passing = (("lost", 0), *[("same", sign) for sign in (*line, *code[0], *code[-1])])
                texts = [decoder.written(told(passing)) for told in (sent, came)]
                self.assertEqual(texts[0][-2:], texts[1][-2:])


if __name__ == "__main__":
    unittest.main()
