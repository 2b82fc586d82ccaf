"""Gaps [81, 82] and their prices [83]."""

import itertools
import random
import unittest

import plain
from helpers import (CODE, HALF, LATE, LOST, NO_COUNTS, NO_TEXTS, NOTHING, PHASE, SHORT, TURN, Foreign, cases,
                     check_raised, check_refused, random_text)
from spoiltline.decoders import Decoder
from spoiltline.errors import InvalidCount, InvalidPair, InvalidText, TooMany
from spoiltline.gaps import gap_price, gaps
from spoiltline.lags import lag_at, lags
from spoiltline.pairs import Pairs
from spoiltline.passings import all_kinds, came, sent
from test_distances import table

NO_STARTS = ((2, 2), (0, 2), [0, 0], (True, 0), (0, False), (0,), (0, 0, 0), (), 0, True, "00", (0.0, 0), Foreign(), -1)
NO_LAGS = (("a", "b"), ["", ""], ("",), ("", "", ""), None, "", ("A", ""), ("", None), (b"", ""), Foreign(), (1, ""))


def crossed(signs, letters="ab"):
    """Pairs of two modes, which no sign leads on together: only by errors do both write."""
    one = [(1, letters[0]), *[None] * (signs - 1)]
    other = [None, (2, letters[1]), *[None] * (signs - 2)]
    return Decoder(signs, [[(1, ""), (2, ""), *[None] * (signs - 2)], one, other], ["", "", ""])


def chained(words):
    """A chain whose entries write these words, the first ones of which are told."""
    steps = [[(at + 1, word) for word in told] for at, told in enumerate(words)]
    return Decoder(len(words[0]), [*steps, [None] * len(words[0])], [None] * len(words) + [""])


class Examples(unittest.TestCase):
    def test_gaps(self):
        half = Pairs(HALF, [("lost", 0)])
        self.assertEqual([gaps(half, None, 1), gaps(half, (0, 0), 0), gaps(half, (1, 1), 1)],
                         [[((0, 0), "", "", 0)], [(None, "", "", 0)], [(None, "", "", 0), ((0, 1), "x", "", 1)]])
        short = Pairs(SHORT, TURN)
        self.assertEqual([gaps(short, None, 0), gaps(short, None, 1)],
                         [[(None, "az", "az", 0), (None, "bz", "bz", 0)],
                          [(None, "az", "az", 0), (None, "az", "bz", 1), (None, "bz", "bz", 0)]])
        self.assertEqual([gap_price(("", ""), "x", "", ("x", "")), gap_price(("", ""), "x", "", ("", "")),
                          gap_price(("ab", ""), "c", "ab", ("c", ""))], [0, 1, 0])
        pair = (2, 2)
        check_refused(self, InvalidPair, pair, gaps, half, pair, 1)


class Gaps(unittest.TestCase):
    def test_against_going_along_all_ways(self):
        met = 0
        for decoder, kinds in cases(81, 60):
            pairs, told = Pairs(decoder, kinds), plain.PlainPairs(decoder, kinds)
            starts = [None, *itertools.chain(*pairs.knots)]
            for start, many in itertools.product(starts, (0, 1, 3)):
                found = plain.plain_gaps(told, start, many, 3000)
                if found is not None:
                    self.assertEqual(gaps(pairs, start, many), found)
                    met += len(found)
        self.assertGreater(met, 5000)

    def test_from_the_beginning(self):
        self.assertEqual(gaps(Pairs(NOTHING, all_kinds(2)), None, 5), [])
        self.assertEqual(gaps(Pairs(Decoder(1, [[None]], ["abc"]), []), None, 0), [(None, "abc", "abc", 0)])
        self.assertEqual(gaps(Pairs(CODE, LOST), None, 12), [((0, 0), "", "", 0)])
        self.assertEqual(gaps(Pairs(LATE, []), None, 1),
                         [(None, "", "", 0), ((1, 1), "", "", 0), ((3, 3), "", "", 0), ((4, 4), "", "", 0)])

    def test_an_error_to_the_same_knot(self):
        pairs = Pairs(Decoder(2, [[(0, "a"), (0, "b")]], ["c"]), [("turned", 0, 1), ("lost", 1)])
        self.assertEqual(gaps(pairs, (0, 0), 0), [(None, "c", "c", 0)])
        self.assertEqual(gaps(pairs, (0, 0), 3), [(None, "c", "c", 0), ((0, 0), "a", "b", 1), ((0, 0), "b", "", 1)])

    def test_ways_that_come_back_through_pairs_of_no_knot(self):
        pairs = Pairs(crossed(2), TURN)
        told = [(None, "a" * many, "b" * many, many + 1) for many in range(1601)]
        knots = [((1, 1), "", "", 0), ((2, 2), "", "", 0)]
        self.assertEqual(gaps(pairs, None, 3), [(None, "", "", 0), *told[1:3], *knots])
        self.assertEqual(gaps(pairs, None, 1601), [(None, "", "", 0), *told[1:], *knots])

    def test_the_words_of_both_ends(self):
        decoder = Decoder(2, [[(0, "a"), (1, "b")], [None, None]], ["x", "y"])
        pairs = Pairs(decoder, [("put", 1), ("turned", 0, 1)])
        self.assertEqual(gaps(pairs, (0, 0), 1), [(None, "ax", "by", 1), (None, "by", "by", 0), (None, "x", "by", 1),
                                                  (None, "x", "x", 0)])

    def test_each_call_tells_a_new_list(self):
        pairs = Pairs(HALF, [("lost", 0)])
        told = gaps(pairs, None, 1)
        told.clear()
        self.assertEqual(gaps(many=1, start=None, pairs=pairs), [((0, 0), "", "", 0)])

    def test_the_order_of_errors(self):
        half, short = Pairs(HALF, [("lost", 0)]), Pairs(SHORT, TURN)
        for start in NO_STARTS:
            check_refused(self, InvalidPair, start, gaps, half, start, None)
            check_refused(self, InvalidPair, start, gaps, short, start, -1)
        for start in ((0, 0), (1, 1)):
            check_refused(self, InvalidPair, start, gaps, short, start, 1)
        for many in NO_COUNTS:
            check_refused(self, InvalidCount, many, gaps, half, (0, 0), many)
            check_refused(self, InvalidCount, many, gaps, half, None, many)
            check_refused(self, InvalidCount, many, gaps, Pairs(NOTHING, []), None, many)


class TooManyGaps(unittest.TestCase):
    def refused(self, *args):
        with self.assertRaises(TooMany) as caught:
            gaps(*args)
        self.assertIs(type(caught.exception.count), int)
        self.assertGreater(caught.exception.count, 20000)

    def test_just_20000_and_just_more(self):
        # 2 ** 5 * 5 ** 4 texts, and as many with one more.
        words = [["a", "b", "a", "b", "a"]] * 5 + [["a", "b", "c", "d", "e"]] * 4
        pairs = Pairs(chained(words), [])
        told = gaps(pairs, None, 0)
        self.assertEqual((len(told), told[0], told[-1]),
                         (20000, (None, "a" * 9, "a" * 9, 0), (None, "bbbbbeeee", "bbbbbeeee", 0)))
        self.assertEqual(told, sorted(told, key=lambda gap: gap[1:]))
        more = chained(words)
        ends = list(more.ends)
        ends[0] = "x"
        self.refused(Pairs(Decoder(5, more.steps, ends), []), None, 0)
        many = -1
        check_refused(self, InvalidCount, many, gaps, Pairs(Decoder(5, more.steps, ends), []), None, many)

    def test_long_chains(self):
        for words in (["a", "b"], ["a", "ab"]):
            pairs = Pairs(chained([words] * 39), LOST)
            if words == ["a", "b"]:
                self.refused(pairs, None, 0)
                self.refused(pairs, None, 3)
            else:
                self.refused(pairs, None, 0)
        self.assertEqual(len(gaps(Pairs(chained([["a", "aa"]] * 39), []), None, 0)), 40)

    def test_errors_that_go_round(self):
        decoder = Decoder(3, [[(1, ""), (2, ""), None], [(1, "a"), None, (1, "b")], [None, (2, "a"), None]], [""] * 3)
        pairs = Pairs(decoder, [("turned", 0, 1), ("turned", 2, 1), ("lost", 0)])
        self.refused(pairs, None, 60)
        self.refused(pairs, None, 1601)
        self.assertEqual(gaps(pairs, None, 3), plain.plain_gaps(plain.PlainPairs(decoder, pairs.kinds), None, 3))

    def test_ways_that_cannot_come_to_an_end_in_time_do_not_count(self):
        # From (1, 2) both modes read 15 signs alike, and then only an error leads both to the end.
        modes = [[(1, "a"), (3, "")], [(2, "a"), (19, "")]]
        chains = [[(state + 1, "a"), (state + 1, "b")] for state in range(3, 35)]
        chains[15], chains[31] = [(35, ""), None], [None, (35, "")]
        decoder = Decoder(2, [[(1, ""), (2, "")], *modes, *chains, [None, None]], [None] * 35 + [""])
        pairs = Pairs(decoder, TURN)
        self.assertEqual(gaps(pairs, (1, 2), 0), [])
        self.refused(pairs, (1, 2), 1)


class Prices(unittest.TestCase):
    def test_against_the_plain_table(self):
        dice = random.Random(83)
        for _ in range(1500):
            left, right = random_text(dice, "ab", 5), random_text(dice, "ab", 5)
            before, behind = [(random_text(dice, "ab", 3), "")[::dice.choice([1, -1])] for _ in range(2)]
            price = table(before[0] + left + behind[1], before[1] + right + behind[0])
            self.assertEqual(gap_price(before, left, right, behind), price)
        self.assertEqual(gap_price(behind=("", "b"), right="b", left="", before=("", "")), 0)
        self.assertEqual(gap_price(("a" * 400, ""), "b" * 400, "b" * 400, ("a" * 400, "")), 800)

    def test_each_argument_wrong_in_turn(self):
        for lag in NO_LAGS:
            check_refused(self, InvalidText, lag, gap_price, lag, None, None, None)
            check_refused(self, InvalidText, lag, gap_price, ("", "a"), "a", "", lag)
        for text in NO_TEXTS:
            check_refused(self, InvalidText, text, gap_price, ("", ""), text, None, None)
            check_refused(self, InvalidText, text, gap_price, ("", ""), "", text, None)

    def test_free_ways_within_a_knot_cost_nothing(self):
        for decoder, kinds in cases(84, 15):
            pairs = Pairs(decoder, kinds)
            for index, knot in enumerate(pairs.knots):
                number = lags(pairs, index)[1]
                for pair in knot if number is not None else ():
                    for step, goal, left, right in pairs.edges(pair):
                        if step[0] == "same" and goal in knot:
                            told = [lag_at(pairs, index, number, point) for point in (pair, goal)]
                            self.assertEqual(gap_price(told[0], left, right, told[1]), 0)


class Steps(unittest.TestCase):
    def test_the_steps_of_gaps(self):
        from spoiltline.gaps import steps_of_gap
        for decoder, kinds in cases(85, 15):
            pairs = Pairs(decoder, kinds)
            for start in [None, *itertools.chain(*pairs.knots)]:
                for goal, left, right, errors in gaps(pairs, start, 2)[:40]:
                    passing = steps_of_gap(pairs, start, goal, left, right)
                    self.assertEqual(len([step for step in passing if step[0] != "same"]), errors)
                    if start is None and goal is None:
                        self.assertEqual((decoder.written(sent(passing)), decoder.written(came(passing))), (left, right))


if __name__ == "__main__":
    unittest.main()
