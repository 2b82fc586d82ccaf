"""From which number of errors on the harm is endless [71, 72], ways that show it [73, 74]."""

import random
import unittest

import plain
from helpers import (CODE, HALF, LATE, LOST, NO_DECODERS, NO_KINDS, NOTHING, PHASE, TURN, UNLIKE, Foreign, cases, chain,
                     check_refused, mixed)
from spoiltline.decoders import Decoder
from spoiltline.distances import round_price
from spoiltline.endless import endless, is_endless, least_endless
from spoiltline.errors import InvalidDecoder, InvalidKinds
from spoiltline.passings import all_kinds, came, errors_in, harm_of, is_passing, plain_harm, sent
from spoiltline.words import turns

NEVER = [(CODE, LOST), (HALF, [("lost", 0)]), (NOTHING, all_kinds(2)), (PHASE, []), (PHASE, [("put", 1)]), (LATE, TURN),
         (chain(5), all_kinds(1))]


def walked(decoder, kinds, pair, passing):
    """The pair behind a way and what it writes, by the words of [51]."""
    left = right = ""
    for step in passing:
        edge, = [edge for edge in plain.edges_from(decoder, kinds, pair) if edge[0] == step]
        pair, left, right = edge[1], left + edge[2], right + edge[3]
    return pair, left, right


class Examples(unittest.TestCase):
    def test_phase_and_code(self):
        lost = [("lost", 0)]
        self.assertEqual([least_endless(PHASE, lost), least_endless(CODE, LOST), endless(CODE, [("lost", 1)])],
                         [1, None, None])
        self.assertEqual([is_endless(PHASE, lost, endless(PHASE, lost)), is_endless(PHASE, lost, None)], [True, False])
        kinds = [("lost", 2)]
        check_refused(self, InvalidKinds, kinds, least_endless, PHASE, kinds)


class Least(unittest.TestCase):
    def test_against_plain_trying(self):
        found = []
        for decoder, kinds in cases(71, 90):
            found.append(least_endless(decoder, kinds))
            self.assertEqual(found[-1], plain.least_endless(plain.PlainPairs(decoder, kinds)))
        self.assertTrue({None, 1, 2} <= set(found))

    def test_never(self):
        for decoder, kinds in NEVER:
            self.assertIsNone(least_endless(decoder, kinds))
            self.assertIsNone(endless(decoder, kinds))

    def test_an_error_behind_the_knot_counts(self):
        late = Decoder(3, [[(1, ""), (2, ""), None], [(1, "a"), (1, "b"), (3, "")], [(2, "b"), (2, "a"), None],
                           [None, None, None]], [None, None, None, ""])
        self.assertIsNone(least_endless(late, TURN))
        self.assertEqual(least_endless(late, [*TURN, ("put", 2)]), None)
        turned = Decoder(3, [[(1, ""), (2, ""), None], [(1, "a"), (1, "b"), (3, "")], [(2, "b"), (2, "a"), (3, "")],
                             [None, None, None]], [None, None, None, ""])
        self.assertEqual(least_endless(turned, TURN), 1)
        apart = Decoder(4, [[(1, ""), (2, ""), None, None], [(1, "a"), (1, "b"), (3, ""), None],
                            [(2, "b"), (2, "a"), None, (3, "")], [None] * 4], [None, None, None, ""])
        self.assertEqual(least_endless(apart, [*TURN, ("turned", 2, 3)]), 2)
        self.assertEqual(endless(apart, [*TURN, ("turned", 2, 3)])[0], 2)

    def test_kinds_in_any_order_and_twice(self):
        dice = random.Random(72)
        for decoder, kinds in cases(73, 30):
            told = mixed(dice, kinds)
            self.assertEqual(least_endless(decoder, told), least_endless(kinds=kinds, decoder=decoder))
            self.assertEqual(endless(decoder, told), endless(kinds=kinds, decoder=decoder))
            self.assertIsNone(least_endless(decoder, []))

    def test_refused(self):
        for call in (least_endless, endless, lambda decoder, kinds: is_endless(decoder, kinds, None)):
            for decoder in NO_DECODERS:
                check_refused(self, InvalidDecoder, decoder, call, decoder, None)
            for kinds in NO_KINDS:
                check_refused(self, InvalidKinds, kinds, call, PHASE, kinds)
                self.assertRaises(InvalidKinds, call, NOTHING, kinds)


class Ways(unittest.TestCase):
    def check(self, decoder, kinds):
        told = endless(decoder, kinds)
        errors, before, loop, after, price = told
        self.assertEqual((type(told), errors), (tuple, least_endless(decoder, kinds)))
        self.assertTrue(all(is_passing(passing, decoder.signs) for passing in (before, loop, after)))
        self.assertEqual((errors_in(loop), errors_in(before + after)), (0, errors))
        pair, _, _ = walked(decoder, kinds, (0, 0), before)
        behind, left, right = walked(decoder, kinds, pair, loop)
        last, _, _ = walked(decoder, kinds, pair, after)
        self.assertEqual(behind, pair)
        self.assertTrue(plain.are_words(decoder, last))
        self.assertEqual((round_price(left, right), turns(left, right)), (price, []))
        self.assertGreaterEqual(price, 1)
        self.assertIs(is_endless(decoder, kinds, told), True)
        self.check_growth(decoder, told)

    def check_growth(self, decoder, told):
        _, before, loop, after, price = told
        # What before, after and the ends write, on both sides.
        short = before + after
        letters = len(decoder.written(sent(short))) + len(decoder.written(came(short)))
        for many in range(5):
            self.assertGreaterEqual(harm_of(decoder, before + many * loop + after), many * price - letters)

    def test_all_clauses(self):
        met = 0
        for decoder, kinds in cases(74, 160):
            if least_endless(decoder, kinds) is not None:
                self.check(decoder, kinds)
                met += 1
        self.assertGreater(met, 40)

    def test_several_ways_round_together(self):
        self.check(UNLIKE, TURN)
        _, _, loop, _, _ = endless(UNLIKE, TURN)
        self.assertEqual(sorted(set(loop)), [("same", 0), ("same", 1), ("same", 2)])
        two = Decoder(2, [[(1, ""), (2, "")], [(1, "ab"), (1, "c")], [(2, "ba"), (2, "c")]], ["", "", ""])
        self.check(two, TURN)

    def test_turns_that_stay_for_a_long_time(self):
        steps = [[(1, ""), (2, ""), None], [(1, "a"), (3, "aaa"), None], [(2, "a"), (4, "aaa"), None],
                 [(5, "aaa"), None, None], [(6, "aaa"), None, None], [(1, "aab"), None, None], [(2, "baa"), None, None]]
        self.assertIsNone(least_endless(Decoder(3, steps, [""] * 7), TURN))
        steps[1], steps[2] = [*steps[1][:2], (1, "b")], [*steps[2][:2], (2, "b")]
        self.check(Decoder(3, steps, [""] * 7), TURN)

    def test_rings_of_unlike_lengths(self):
        steps = [[(1, ""), (20, "")]]
        steps += [[(state % 19 + 1, "aaa" if state != 3 else "aab"), None] for state in range(1, 20)]
        steps += [[((state - 19) % 20 + 20, "aaa" if state != 25 else "aab"), None] for state in range(20, 40)]
        self.check(Decoder(2, steps, [""] * 40), TURN)

    def test_it_grows(self):
        told = [plain_harm(PHASE, [("lost", 0)], 1, steps) for steps in (2, 4, 6)]
        self.assertEqual(told, sorted(set(told)))


class Judged(unittest.TestCase):
    def setUp(self):
        self.kinds = [("lost", 0)]
        self.told = endless(PHASE, self.kinds)

    def refused(self, value):
        self.assertIs(is_endless(PHASE, self.kinds, value), False, value)

    def test_each_clause_broken(self):
        errors, before, loop, after, price = self.told
        self.refused((errors + 1, before, loop, after, price))
        self.refused((errors - 1, before, loop, after, price))
        self.refused((errors, before, loop, after, price + 1))
        self.refused((errors, before, loop, after, price - 1))
        self.refused((errors, (), loop, after, price))
        self.refused((errors, before + (("lost", 0),), loop, after, price))
        self.refused((errors, before, loop[1:], after, price))
        self.refused((errors, before, loop + (("same", 0),), after, price))
        self.refused((errors, before, (("lost", 0), ("lost", 0)), after, price))
        self.refused((errors, before, (), after, 0))
        self.refused((errors, before, loop, (("lost", 0), ("lost", 0)), price))
        self.refused((errors, before, loop, (("put", 0),), price))
        self.refused((errors, (("put", 0),), loop, after, price))
        self.refused((errors, before, loop, after, price, 0))
        self.refused((errors, before, loop, after))

    def test_other_right_tuples(self):
        errors, before, loop, after, price = self.told
        self.assertTrue(is_endless(PHASE, self.kinds, (errors, before, loop, after + (("same", 1),), price)))
        for loop in (loop * 2, loop * 3):
            _, left, right = walked(PHASE, self.kinds, walked(PHASE, self.kinds, (0, 0), before)[0], loop)
            self.assertTrue(is_endless(PHASE, self.kinds, (errors, before, loop, after, round_price(left, right))))
            self.refused((errors, before, loop, after, round_price(left, right) + 1))

    def test_texts_that_are_turns(self):
        self.refused((1, (("lost", 0),), (("same", 1),), (), 0))
        self.refused((1, (("lost", 0),), (("same", 1),), (), 1))

    def test_an_error_of_another_kind(self):
        value = (1, (("put", 0),), *self.told[2:])
        self.refused(value)
        self.assertTrue(is_endless(PHASE, [("put", 0), ("lost", 0)], self.told))

    def test_an_end_that_rejects(self):
        decoder = Decoder(2, PHASE.steps, ["", None])
        told = endless(decoder, self.kinds)
        self.assertTrue(is_endless(decoder, self.kinds, told))
        self.assertIs(is_endless(decoder, self.kinds, (*told[:3], (), told[4])), False)

    def test_values_of_other_kinds(self):
        for value in (None, True, 0, 1, (), [], "endless", {}, Foreign(), object(), (1,) * 5, (None,) * 5, list(self.told)):
            self.refused(value)
        for at in range(5):
            odd = [None, True, 1.0, "1", [], {}, Foreign(), -1]
            odd += [list(self.told[at])] if isinstance(self.told[at], tuple) else []
            for value in odd:
                if (at, value) != (3, []):
                    self.refused((*self.told[:at], value, *self.told[at + 1:]))
        wrong = (("same", 2),)
        self.refused((*self.told[:3], wrong, self.told[4]))
        self.refused((self.told[0], wrong, *self.told[2:]))

    def test_true_for_one(self):
        decoder = Decoder(2, [[(1, ""), (2, "")], [(1, "a"), (1, "b")], [(2, "b"), (2, "b")]], [""] * 3)
        told = endless(decoder, TURN)
        self.assertEqual((told[0], told[4]), (1, 1))
        self.assertTrue(is_endless(decoder, TURN, told))
        self.assertIs(is_endless(decoder, TURN, (True, *told[1:])), False)
        self.assertIs(is_endless(decoder, TURN, (*told[:4], True)), False)
        self.assertIs(is_endless(decoder, TURN, (1.0, *told[1:])), False)

    def test_where_it_is_never_endless(self):
        for decoder, kinds in NEVER:
            for value in (self.told, None, (), (None, (), (), (), 1), (0, (), (), (), 0), (1, (), (), (), 1)):
                self.assertIs(is_endless(value=value, kinds=kinds, decoder=decoder), False)


if __name__ == "__main__":
    unittest.main()
