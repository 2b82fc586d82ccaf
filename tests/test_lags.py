"""Lags of knots [61, 62], lags at pairs [63], loops [64]."""

import unittest

from helpers import HALF, LATE, PHASE, TURN, UNLIKE, Foreign, cases, check_raised, check_refused
from plain import PlainPairs
from spoiltline.decoders import Decoder
from spoiltline.errors import InvalidKnot, InvalidPair, NoLag
from spoiltline.lags import lag_at, lags, loops
from spoiltline.pairs import Pairs
from spoiltline.passings import all_kinds
from spoiltline.words import lag_behind, root

NO_KNOTS = (2, 3, -1, True, False, None, "0", 0.0, (0,), [0], 10 ** 40, Foreign(), ((0, 0), (1, 1)))
NO_NUMBERS = (True, False, None, "0", "", 0.0, 1.0, (0,), [0], ("", ""), Foreign())
MOST = 12


def many_knots(seed=61, many=90):
    """(pairs, plain pairs, index) for many knots of small decoders."""
    for decoder, kinds in cases(seed, many):
        pairs, plain = Pairs(decoder, kinds), PlainPairs(decoder, kinds)
        for index in range(len(pairs.knots)):
            yield pairs, plain, index


class Examples(unittest.TestCase):
    def test_knots(self):
        phase, half = Pairs(PHASE, [("lost", 0)]), Pairs(HALF, [("lost", 0)])
        self.assertEqual([lags(phase, 0), lags(phase, 1), lag_at(phase, 0, 0, (1, 1)), len(loops(phase, 0))],
                         [("place", 0, None), ("bad", None, None), ("", ""), 2])
        self.assertEqual([half.knots, lags(half, 1), lag_at(half, 1, 0, (0, 1)), lag_at(half, 1, 2, (1, 0)),
                          lag_at(half, 1, -1, (1, 0))],
                         [(((0, 0), (1, 1)), ((0, 1), (1, 0))), ("round", 0, 1), ("", ""), ("x", ""), ("", "xx")])
        check_refused(self, InvalidKnot, 2, lags, phase, 2)


class Lags(unittest.TestCase):
    def test_against_trying_all_numbers(self):
        met = {"bad": 0, "place": 0, "round": 0, "place elsewhere": 0, "longer round": 0}
        for pairs, plain, index in many_knots():
            told = lags(pairs, index)
            sort, least, step = told
            met[sort] += 1
            numbers = plain.numbers(index, MOST)
            if sort == "bad":
                self.assertEqual((told, numbers), (("bad", None, None), []))
            elif sort == "place":
                self.assertEqual((told, numbers), (("place", least, None), [least] if abs(least) <= MOST else []))
                met["place elsewhere"] += least != 0
            else:
                self.assertTrue(0 <= least < step)
                self.assertEqual(numbers, [at for at in range(-MOST, MOST + 1) if at % step == least])
                met["longer round"] += step > 1
        self.assertTrue(min(met.values()) > 0, met)

    def test_a_place_with_a_lag(self):
        pairs = Pairs(LATE, TURN)
        told = {pairs.knots[index][0]: lags(pairs, index) for index in range(len(pairs.knots))}
        self.assertEqual(told[1, 3], ("place", 1, None))
        index = pairs.knot_of((1, 3))
        self.assertEqual([lag_at(pairs, index, 1, (1, 3)), lag_at(pairs, index, 1, (1, 4))], [("a", ""), ("b", "")])
        turned = Pairs(LATE, [("turned", 1, 0)])
        index = turned.knot_of((4, 1))
        self.assertEqual(lags(turned, index), ("place", -1, None))
        self.assertEqual(lag_at(turned, index, -1, (4, 1)), ("", "b"))

    def test_a_knot_that_only_three_rounds_together_show_to_be_bad(self):
        pairs = Pairs(UNLIKE, TURN)
        self.assertEqual([lags(pairs, index) for index in range(3)],
                         [("place", 0, None), ("bad", None, None), ("place", 0, None)])

    def test_step_is_the_root_of_what_any_way_round_writes(self):
        for pairs, _, index in many_knots(62):
            sort, _, step = lags(pairs, index)
            if sort == "round":
                (_, left, right), = loops(pairs, index)
                self.assertEqual((len(root(left)), len(root(right))), (step, step))

    def test_long_rings(self):
        ring = Decoder(1, [[((state + 1) % 40, "abc" if state else "abd")] for state in range(40)], [""] * 40)
        pairs = Pairs(ring, [("lost", 0)])
        self.assertEqual([lags(pairs, index) for index in (0, 1)], [("round", 0, 120), ("round", 117, 120)])
        self.assertEqual(len(pairs.knots), 40)
        slow = Pairs(Decoder(2, [[((state + 1) % 40, "abc"), (state if state < 39 else 0, "bca")] for state in range(40)],
                             [""] * 40), [("lost", 0)])
        self.assertEqual([lags(slow, index) for index in range(2)], [("place", 0, None)] * 2)


class LagAt(unittest.TestCase):
    def test_against_walking_along_free_edges(self):
        for pairs, plain, index in many_knots(63, 12):
            for number in [*range(-400, 401, 57), *range(-MOST, MOST + 1), -400, 400]:
                told = plain.lag_with(index, number)
                for pair in pairs.knots[index]:
                    if told is None:
                        check_raised(self, NoLag, {}, lag_at, pairs, index, number, pair)
                    else:
                        self.assertEqual(lag_at(pairs, index, number, pair), told[pair])

    def test_each_number_of_round_knots(self):
        decoder = Decoder(2, [[(1, "ab"), (0, "abc")], [(2, "c"), (1, "cab")], [(0, ""), None]], ["", None, ""])
        for kinds in ([], all_kinds(2)):
            pairs = Pairs(decoder, kinds)
            for index, knot in enumerate(pairs.knots):
                sort, least, step = lags(pairs, index)
                self.assertEqual((sort, step), ("round", 3))
                for number in range(-400, 401):
                    if number % step == least:
                        self.check_lag(pairs, index, number)
                    else:
                        check_raised(self, NoLag, {}, lag_at, pairs, index, number, knot[0])

    def check_lag(self, pairs, index, number):
        knot = pairs.knots[index]
        lag = lag_at(pairs, index, number, knot[0])
        self.assertEqual(len(lag[0]) - len(lag[1]), number)
        for pair in knot:
            for step, goal, left, right in pairs.edges(pair):
                if step[0] == "same" and goal in knot:
                    behind = lag_behind(lag_at(pairs, index, number, pair), left, right)
                    self.assertEqual(behind, lag_at(pairs, index, number, goal))

    def test_refused(self):
        pairs = Pairs(HALF, [("lost", 0)])
        for knot in NO_KNOTS:
            check_refused(self, InvalidKnot, knot, lag_at, pairs, knot, None, None)
            check_refused(self, InvalidKnot, knot, lags, pairs, knot)
            check_refused(self, InvalidKnot, knot, loops, pairs, knot)
        for pair in ((0, 1), (1, 0), (2, 2), [0, 0], (True, True), (0, False), None, (0, 0, 0), "00", 0, Foreign()):
            check_refused(self, InvalidPair, pair, lag_at, pairs, 0, None, pair)
        for number in NO_NUMBERS:
            check_raised(self, NoLag, {}, lag_at, pairs, 0, number, (1, 1))
        self.assertEqual(lag_at(pair=(1, 1), number=3, knot=0, pairs=pairs), ("xxx", ""))

    def test_bad_knots_and_places(self):
        pairs = Pairs(PHASE, [("lost", 0)])
        for number in (*NO_NUMBERS, 0, 1, -400, 400):
            check_raised(self, NoLag, {}, lag_at, pairs, 1, number, (0, 1))
            if number != 0 or number is False or isinstance(number, float):
                check_raised(self, NoLag, {}, lag_at, pairs, 0, number, (0, 0))
        pair = (0, 0)
        check_refused(self, InvalidPair, pair, lag_at, pairs, 1, 0, pair)

    def test_every_pair_of_no_knot_is_refused(self):
        pairs = Pairs(LATE, TURN)
        for pair in pairs.useful:
            if pairs.knot_of(pair) != 0:
                check_refused(self, InvalidPair, pair, lag_at, pairs, 0, 0, pair)


class Loops(unittest.TestCase):
    def check_loop(self, pairs, index, loop):
        self.assertIs(type(loop), tuple)
        passing, left, right = loop
        pair, texts = pairs.knots[index][0], ["", ""]
        for step in passing:
            self.assertEqual(step[0], "same")
            edge, = [edge for edge in pairs.edges(pair) if edge[0] == step]
            pair = edge[1]
            self.assertIn(pair, pairs.knots[index])
            texts = [texts[0] + edge[2], texts[1] + edge[3]]
        self.assertEqual((pair, texts), (pairs.knots[index][0], [left, right]))
        self.assertNotEqual(left, "")

    def test_loops(self):
        for pairs, _, index in many_knots(64, 150):
            sort = lags(pairs, index)[0]
            if sort == "bad":
                check_raised(self, NoLag, {}, loops, pairs, index)
                continue
            told = loops(pairs, index)
            self.assertIs(type(told), list)
            self.assertEqual(len(told), 2 if sort == "place" else 1)
            for loop in told:
                self.check_loop(pairs, index, loop)
            if sort == "place":
                (_, one, _), (_, other, _) = told
                self.assertNotEqual(one + other, other + one)
            again = loops(Pairs(pairs.decoder, list(pairs.kinds)), index)
            told.clear()
            self.assertEqual(loops(knot=index, pairs=pairs), again)


if __name__ == "__main__":
    unittest.main()
