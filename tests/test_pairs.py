"""Pairs of states: their edges [51], useful ones [52], errors and ways [53], knots [54]."""

import itertools
import random
import unittest

from helpers import (CODE, HALF, LATE, LOST, NO_DECODERS, NO_KINDS, NOTHING, PHASE, SHORT, TURN, Foreign, cases, chain,
                     check_refused, many_decoders, mixed, some_kinds)
from plain import PlainPairs, are_words, edges_from, is_error
from spoiltline.decoders import Decoder
from spoiltline.errors import InvalidDecoder, InvalidKinds, InvalidPair
from spoiltline.pairs import Pairs
from spoiltline.passings import all_kinds, errors_in, is_passing

# None of them is a useful pair of 2 states.
NO_PAIRS = (None, 0, True, "00", (), (0,), (0, 0, 0), [0, 0], (True, 0), (0, False), (0, 1.0), (0, None), (0, "1"), (2, 0),
            (0, 2), (-1, 0), (0, 10 ** 40), ((0, 0),), ((0,), 0), ([0], 0), {0: 0}, Foreign(), (0, Foreign()), object())


def many_cases():
    dice = random.Random(51)
    told = cases(52, 80)
    return told + [(decoder, some_kinds(dice, decoder.signs)) for decoder in many_decoders(60, 4)]


class Examples(unittest.TestCase):
    def test_phase(self):
        pairs = Pairs(PHASE, [("lost", 0)])
        self.assertEqual([pairs.useful, pairs.knots, pairs.knot_of((0, 1)), pairs.errors_to((1, 0))],
                         [((0, 0), (0, 1), (1, 0), (1, 1)), (((0, 0), (1, 1)), ((0, 1), (1, 0))), 1, 1])
        self.assertEqual(pairs.edges((0, 1)), [(("lost", 0), (1, 1), "x", ""), (("same", 0), (1, 0), "x", ""),
                                               (("same", 1), (0, 1), "y", "y")])
        pair = (0, 2)
        check_refused(self, InvalidPair, pair, pairs.edges, pair)


class AgainstPlainReaching(unittest.TestCase):
    def test_useful_pairs_edges_and_errors(self):
        for decoder, kinds in many_cases():
            pairs, plain = Pairs(decoder, kinds), PlainPairs(decoder, kinds)
            self.assertEqual(pairs.useful, plain.useful)
            for pair in pairs.useful:
                self.assertEqual(pairs.edges(pair), plain.edges[pair])
                self.assertEqual(pairs.errors_to(pair), plain.to[pair])
                self.assertEqual(pairs.errors_from(pair), plain.out[pair])

    def test_knots(self):
        for decoder, kinds in many_cases():
            pairs, plain = Pairs(decoder, kinds), PlainPairs(decoder, kinds)
            self.assertEqual(pairs.knots, plain.knots)
            for pair in pairs.useful:
                self.assertEqual(pairs.knot_of(pair), plain.knot_of(pair))

    def test_useful_is_what_both_runs_come_to(self):
        for decoder, kinds in cases(53, 20):
            trimmed = decoder.trimmed()
            for one, other in Pairs(decoder, kinds).useful:
                self.assertTrue(trimmed[one] and trimmed[other])


class Ways(unittest.TestCase):
    def followed(self, decoder, kinds, start, passing):
        """All pairs on the way, both ends among them."""
        met = [start]
        for step in passing:
            found = [edge for edge in edges_from(decoder, kinds, met[-1]) if edge[0] == step]
            self.assertEqual(len(found), 1)
            met.append(found[0][1])
        self.assertEqual(len(met), len(set(met)))
        return met

    def fewest(self, plain, start):
        """The least number of errors from a pair to each one."""
        least = {start: 0}
        for _ in plain.useful:
            for pair in list(least):
                for edge in plain.edges[pair]:
                    errors = least[pair] + is_error(edge)
                    least[edge[1]] = min(errors, least.get(edge[1], errors))
        return least

    def test_steps(self):
        for decoder, kinds in many_cases()[::4]:
            pairs, plain = Pairs(decoder, kinds), PlainPairs(decoder, kinds)
            for start in pairs.useful:
                least = self.fewest(plain, start)
                for goal in pairs.useful:
                    passing = pairs.way(start, goal)
                    self.assertEqual(passing is None, goal not in least)
                    if passing is not None:
                        self.assertTrue(is_passing(passing, decoder.signs))
                        self.assertEqual(self.followed(decoder, kinds, start, passing)[-1], goal)
                        self.assertEqual(errors_in(passing), least[goal])

    def test_ways_out(self):
        for decoder, kinds in many_cases():
            pairs = Pairs(decoder, kinds)
            for start in pairs.useful:
                passing = pairs.way_out(start)
                self.assertTrue(is_passing(passing, decoder.signs))
                self.assertTrue(are_words(decoder, self.followed(decoder, kinds, start, passing)[-1]))
                self.assertEqual(errors_in(passing), pairs.errors_from(start))

    def test_one_pair(self):
        pairs = Pairs(PHASE, LOST)
        for pair in pairs.useful:
            self.assertEqual((pairs.way(pair, pair), errors_in(pairs.way_out(pair))), ((), 0))

    def test_no_way(self):
        pairs = Pairs(LATE, TURN)
        self.assertIsNone(pairs.way((1, 1), (0, 0)))
        self.assertIsNone(pairs.way((1, 3), (1, 1)))
        self.assertEqual(pairs.way((0, 0), (1, 2)), (("turned", 0, 1),))

    def test_a_longer_way_with_fewer_errors(self):
        decoder = Decoder(2, [[(1, ""), (3, "")], [(2, ""), None], [(3, ""), None], [(3, ""), None]], [None] * 3 + [""])
        pairs = Pairs(decoder, [("turned", 1, 0), ("turned", 0, 1), ("lost", 0), ("put", 0)])
        self.assertEqual(pairs.way((0, 0), (3, 3)), (("same", 1),))
        self.assertEqual(pairs.way_out((1, 1)), (("same", 0), ("same", 0)))
        self.assertEqual(pairs.errors_to((1, 3)), 1)
        self.assertEqual(pairs.errors_from((1, 3)), 0)

    def test_a_chain(self):
        pairs = Pairs(chain(40), [("lost", 0), ("put", 0)])
        self.assertEqual(len(pairs.useful), 1600)
        self.assertEqual(pairs.way((0, 0), (39, 39)), (("same", 0),) * 39)
        self.assertEqual(pairs.errors_to((0, 39)), 39)
        self.assertEqual((len(pairs.way((0, 0), (0, 39))), errors_in(pairs.way_out((0, 39)))), (39, 39))
        self.assertEqual(pairs.knots, ())


class Attributes(unittest.TestCase):
    def test_kinds(self):
        dice = random.Random(54)
        for decoder, kinds in many_cases()[::3]:
            told = mixed(dice, kinds)
            pairs, other = Pairs(decoder, kinds), Pairs(kinds=told, decoder=decoder)
            self.assertEqual(pairs.kinds, tuple(sorted(set(kinds))))
            self.assertIs(pairs.decoder, decoder)
            self.assertEqual((pairs.kinds, pairs.useful, pairs.knots), (other.kinds, other.useful, other.knots))
            for pair in pairs.useful:
                self.assertEqual(pairs.edges(pair), other.edges(pair))
                self.assertEqual(pairs.way_out(pair), other.way_out(pair))
                self.assertEqual(pairs.way((0, 0), pair), other.way((0, 0), pair))

    def test_a_list_that_is_changed_afterwards(self):
        kinds = [("lost", 0)]
        pairs = Pairs(PHASE, kinds)
        kinds.append(("put", 0))
        pairs.edges((0, 0)).clear()
        self.assertEqual(pairs.kinds, (("lost", 0),))
        self.assertEqual(pairs.edges(pair=(0, 0)), edges_from(PHASE, [("lost", 0)], (0, 0)))

    def test_kinds_of_values(self):
        pairs = Pairs(PHASE, [("lost", 0)])
        self.assertEqual({type(value) for value in (pairs.kinds, pairs.useful, pairs.knots, *pairs.knots, *pairs.useful,
                                                    pairs.way((0, 0), (1, 0)), pairs.way_out((1, 0)))}, {tuple})
        self.assertEqual(type(pairs.edges((0, 0))), list)

    def test_nothing_is_accepted(self):
        for decoder in (NOTHING, Decoder(1, [[None]], [None]), Decoder(1, [[(0, "a")], [(1, "b")]], [None, ""])):
            pairs = Pairs(decoder, all_kinds(decoder.signs))
            self.assertEqual((pairs.useful, pairs.knots), ((), ()))
            pair = (0, 0)
            for call in (pairs.edges, pairs.errors_to, pairs.errors_from, pairs.way_out, pairs.knot_of):
                check_refused(self, InvalidPair, pair, call, pair)
            check_refused(self, InvalidPair, pair, pairs.way, pair, pair)

    def test_pairs_that_lead_to_no_end(self):
        pairs = Pairs(SHORT, LOST)
        self.assertEqual(pairs.useful, ((0, 0), (1, 1)))
        self.assertEqual(pairs.edges((0, 0)), [(("same", 0), (1, 1), "a", "a"), (("same", 1), (1, 1), "b", "b")])

    def test_knots_need_a_letter(self):
        decoder = Decoder(2, [[(0, ""), (1, "")], [(1, "a"), None]], ["", ""])
        self.assertEqual(Pairs(decoder, []).knots, (((1, 1),),))
        self.assertEqual(Pairs(decoder, [("lost", 1), ("put", 1)]).knots, (((0, 1),), ((1, 0),), ((1, 1),)))
        self.assertEqual(Pairs(Decoder(1, [[(1, "a")], [(1, "")]], ["", ""]), []).knots, ())


class Refused(unittest.TestCase):
    def test_decoders_and_kinds(self):
        for decoder in NO_DECODERS:
            check_refused(self, InvalidDecoder, decoder, Pairs, decoder, None)
        for kinds in NO_KINDS:
            check_refused(self, InvalidKinds, kinds, Pairs, PHASE, kinds)
            self.assertRaises(InvalidKinds, Pairs, NOTHING, kinds)
        kinds = [("lost", 1)]
        check_refused(self, InvalidKinds, kinds, Pairs, HALF, kinds)

    def test_pairs(self):
        pairs = Pairs(PHASE, [("lost", 0)])
        for pair in NO_PAIRS:
            for call in (pairs.edges, pairs.errors_to, pairs.errors_from, pairs.way_out, pairs.knot_of):
                check_refused(self, InvalidPair, pair, call, pair)
            check_refused(self, InvalidPair, pair, pairs.way, pair, None)
            check_refused(self, InvalidPair, pair, pairs.way, (0, 0), pair)

    def test_of_two_the_first_one(self):
        pairs = Pairs(CODE, [("lost", 0)])
        for start, goal in itertools.permutations(NO_PAIRS[:6], 2):
            check_refused(self, InvalidPair, start, pairs.way, start, goal)

    def test_states_that_are_there_but_not_useful(self):
        pairs = Pairs(HALF, [])
        for pair in ((0, 1), (1, 0)):
            check_refused(self, InvalidPair, pair, pairs.knot_of, pair)
            check_refused(self, InvalidPair, pair, pairs.way, (0, 0), pair)


if __name__ == "__main__":
    unittest.main()
