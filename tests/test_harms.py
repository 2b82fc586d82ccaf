"""The harm [91 to 93], passings that do it [94], what is known of it [95]."""

import random
import unittest

from helpers import (CODE, HALF, LATE, LOST, NO_COUNTS, NO_DECODERS, NO_KINDS, NOTHING, PHASE, SHORT, TURN, UNLIKE,
                     bounded, cases, chain, check_raised, check_refused, mixed)
from plain import formula
from spoiltline.decoders import Decoder
from spoiltline.endless import least_endless
from spoiltline.errors import Endless, InvalidCount, InvalidDecoder, InvalidKinds, TooMany
from spoiltline.gaps import gaps
from spoiltline.harms import ceiling, harm, is_ceiling, worst
from spoiltline.pairs import Pairs
from spoiltline.passings import all_kinds, came, errors_in, harm_of, is_passing, least_passing, plain_harm, sent

CALLS = (harm, worst, ceiling)


class Examples(unittest.TestCase):
    def test_harms(self):
        self.assertEqual([[harm(HALF, [("lost", 0)], m) for m in range(6)], [harm(CODE, LOST, m) for m in range(4)]],
                         [[0, 1, 1, 2, 2, 3], [0, 2, 4, 6]])
        self.assertEqual([harm(PHASE, [("lost", 0)], 1), harm(PHASE, [("put", 1)], 1),
                          worst(Decoder(1, [[None]], [None]), [], 0)], [None, 1, ()])

    def test_worst(self):
        passing = worst(CODE, LOST, 2)
        self.assertEqual([errors_in(passing) <= 2, harm_of(CODE, passing)], [True, 4])
        check_raised(self, Endless, {"errors": 1}, worst, PHASE, [("lost", 0)], 1)


class Harms(unittest.TestCase):
    def test_against_the_formula(self):
        met = []
        for decoder, kinds, errors in bounded(91, 12, 2):
            plain = formula(decoder, kinds, errors)
            if plain is not None:
                self.assertEqual(harm(decoder, kinds, errors), plain)
                met.append(plain)
        self.assertGreater(len(met), 50)
        self.assertGreater(max(met), 5)

    def test_against_plain_trying(self):
        for decoder, kinds, errors in bounded(92, 40, 2):
            steps = 4 if decoder.signs + len(kinds) < 6 else 3
            self.assertGreaterEqual(harm(decoder, kinds, errors), plain_harm(decoder, kinds, errors, steps))

    def test_plain_trying_suffices(self):
        for decoder, kinds in [(CODE, [("lost", 1)]), (CODE, LOST), (HALF, [("lost", 0)]), (SHORT, TURN),
                               (chain(4), [("lost", 0), ("put", 0)]), (Decoder(1, [[(0, "ab")]], ["c"]), [("put", 0)]),
                               (Decoder(2, [[(1, "a"), None], [(1, ""), (1, "")]], [None, "zz"]), [("lost", 1)])]:
            for errors in (0, 1, 2):
                self.assertEqual(harm(decoder, kinds, errors), plain_harm(decoder, kinds, errors, 6))

    def test_no_errors_and_no_kinds(self):
        for decoder, kinds in cases(93, 20):
            self.assertEqual((harm(decoder, kinds, 0), harm(decoder, [], 12)), (0, 0))

    def test_endless_just_from_there_on(self):
        for decoder, kinds in cases(94, 40):
            least = least_endless(decoder, kinds)
            if least is not None:
                self.assertEqual([harm(decoder, kinds, least + more) for more in (0, 1, 7)], [None] * 3)
                self.assertIsNotNone(harm(decoder, kinds, least - 1))

    def test_it_never_falls(self):
        for decoder, kinds in cases(95, 10):
            last = 0
            for errors in (0, 1, 2, 3, 4, 7, 10):
                try:
                    told = harm(decoder, kinds, errors)
                except TooMany:
                    self.check_too_many(Pairs(decoder, kinds), errors)
                    break
                if told is None:
                    break
                self.assertGreaterEqual(told, last)
                last = told

    def check_too_many(self, pairs, errors):
        """It is raised only if gaps raises it from some stop."""
        found = []
        for start in [None, *[pair for knot in pairs.knots for pair in knot]]:
            try:
                gaps(pairs, start, errors)
            except TooMany:
                found.append(start)
        self.assertNotEqual(found, [])

    def test_kinds_and_equal_decoders(self):
        dice = random.Random(96)
        for decoder, kinds, errors in bounded(97, 10, 2):
            again = Decoder(decoder.signs, [list(row) for row in decoder.steps], list(decoder.ends))
            told = mixed(dice, kinds)
            for call in CALLS:
                self.assertEqual(call(decoder, kinds, errors), call(many=errors, kinds=told, decoder=again))

    def test_no_line_is_accepted(self):
        for errors in (0, 1, 12):
            self.assertEqual([call(NOTHING, LOST, errors) for call in CALLS], [0, (), []])
            self.assertTrue(is_ceiling(NOTHING, LOST, errors, 0, []))

    def test_known_harms(self):
        copy = Decoder(2, [[(0, "a"), (0, "b")]], [""])
        self.assertEqual([harm(copy, all_kinds(2), errors) for errors in range(13)], list(range(13)))
        late = Decoder(2, [[(0, "a"), (1, "")], [(0, "b"), (0, "c")]], ["", "zzz"])
        self.assertEqual([harm(late, [("lost", 1)], errors) for errors in range(4)], [0, 3, 5, 7])
        turning = Decoder(2, [[(1, "xx"), (0, "xy")], [(0, ""), (1, "yx")]], ["", ""])
        self.assertEqual([harm(turning, [("lost", 0)], errors) for errors in range(7)], [0, 2, 2, 4, 4, 6, 6])
        self.assertEqual([harm(LATE, TURN, errors) for errors in range(4)],
                         [formula(LATE, TURN, errors) for errors in range(4)])

    def test_lags_that_drift(self):
        # Each lost sign takes letters away from one side: one lag chosen for each knot would tell more.
        decoder = Decoder(2, [[(1, "aa"), (1, "aaa")], [(0, "aa"), (2, "aaa")], [(3, "aaa"), (2, "a")],
                              [(0, "a"), (2, "aa")]], ["a", "aa", "", ""])
        kinds = [("lost", 1), ("turned", 0, 1), ("turned", 1, 0)]
        self.assertEqual([harm(decoder, kinds, errors) for errors in (1, 2, 6)], [5, 10, 30])

    def test_many_states(self):
        ring = Decoder(1, [[((state + 1) % 40, "abc" if state else "abd")] for state in range(40)], [""] * 40)
        self.assertEqual([harm(ring, [("lost", 0), ("put", 0)], errors) for errors in (1, 12)], [3, 36])
        self.assertEqual(harm(chain(40), all_kinds(1), 12), 0)

    def test_the_order_of_errors(self):
        for call in (*CALLS, lambda decoder, kinds, many: is_ceiling(decoder, kinds, many, -1, None)):
            for decoder in NO_DECODERS:
                check_refused(self, InvalidDecoder, decoder, call, decoder, None, None)
            for kinds in NO_KINDS:
                check_refused(self, InvalidKinds, kinds, call, PHASE, kinds, None)
            for many in NO_COUNTS:
                check_refused(self, InvalidCount, many, call, PHASE, [("lost", 0)], many)
                check_refused(self, InvalidCount, many, call, NOTHING, [], many)


class TooManyCourses(unittest.TestCase):
    def test_only_where_gaps_are_too_many(self):
        words = [[(at + 1, "a"), (at + 1, "b")] for at in range(39)]
        decoder = Decoder(2, [*words, [None, None]], [None] * 39 + [""])
        for call in CALLS:
            with self.assertRaises(TooMany) as caught:
                call(decoder, LOST, 2)
            self.assertGreater(caught.exception.count, 20000)
        self.assertRaises(TooMany, gaps, Pairs(decoder, LOST), None, 2)

    def test_endless_comes_first(self):
        steps = [[(1, "a"), (1, "b")]] + [[(at + 1, "a"), (at + 1, "b")] for at in range(1, 35)]
        steps += [[(36, ""), (37, "")], [(36, "a"), (36, "b")], [(37, "b"), (37, "a")]]
        decoder = Decoder(2, steps, [None] * 35 + [""] * 3)
        self.assertRaises(TooMany, gaps, Pairs(decoder, TURN), None, 1)
        self.assertIsNone(harm(decoder, TURN, 1))
        for call in (worst, ceiling):
            check_raised(self, Endless, {"errors": 1}, call, decoder, TURN, 1)
        self.assertIs(is_ceiling(decoder, TURN, 1, 99, []), False)


class Worst(unittest.TestCase):
    def check(self, decoder, kinds, errors):
        passing = worst(decoder, kinds, errors)
        self.assertTrue(is_passing(passing, decoder.signs))
        self.assertLessEqual(errors_in(passing), errors)
        self.assertTrue(all(step[0] == "same" or step in kinds for step in passing))
        if any(decoder.trimmed()):
            self.assertEqual(harm_of(decoder, passing), harm(decoder, kinds, errors))
        else:
            self.assertEqual(passing, ())
        return passing

    def test_many_decoders(self):
        for decoder, kinds, errors in bounded(98, 40, 3):
            self.check(decoder, kinds, errors)

    def test_twelve_errors(self):
        for decoder, kinds in [(CODE, LOST), (HALF, [("lost", 0)]), (LATE, TURN), (UNLIKE, [("put", 2)])]:
            passing = self.check(decoder, kinds, 12)
            found = least_passing(sent(passing), came(passing), kinds)
            self.assertLessEqual(errors_in(found), errors_in(passing))
            self.assertEqual(harm_of(decoder, found), harm_of(decoder, passing))

    def test_a_long_one(self):
        slow = Decoder(2, [[((state + 1) % 40, "abc"), (state if state < 39 else 0, "bca")] for state in range(40)],
                       [""] * 40)
        self.assertGreater(len(self.check(slow, [("lost", 0)], 2)), 400)

    def test_endless(self):
        kinds = [("lost", 0)]
        for call in (worst, ceiling):
            for errors in (1, 2, 12):
                check_raised(self, Endless, {"errors": 1}, call, PHASE, kinds, errors)
        self.assertEqual((harm_of(PHASE, worst(PHASE, kinds, 0)), ceiling(PHASE, kinds, 0) != []), (0, True))
        for decoder, told in cases(99, 40):
            least = least_endless(decoder, told)
            if least is not None:
                check_raised(self, Endless, {"errors": least}, worst, decoder, told, least + 1)
                check_raised(self, Endless, {"errors": least}, ceiling, decoder, told, least)


if __name__ == "__main__":
    unittest.main()
