"""Steady decoders [121], what an error costs them [122, 123, 125], their classes [124], what is to spare [126]."""

import math
import random
import unittest

import plain
import plain_steady
from helpers import (CODE, HALF, LOST, NO_DECODERS, NO_KINDS, NOTHING, PHASE, cases, check_raised, check_refused, mixed)
from makers import place_cases, steady_cases
from spoiltline.decoders import Decoder
from spoiltline.endless import least_endless
from spoiltline.errors import InvalidDecoder, InvalidKinds, NotSteady, TooMany
from spoiltline.gaps import gaps
from spoiltline.harms import harm
from spoiltline.pairs import Pairs
from spoiltline.passings import all_kinds
from spoiltline.sections import is_pinned
from spoiltline.staircases import slope
from spoiltline.steady import classes, is_steady, price, spare

TURNING = Decoder(2, [[(1, "xx"), (0, "xy")], [(0, ""), (1, "yx")]], ["", ""])
ONCE = Decoder(1, [[(1, "x")], [None]], [None, ""])
COPY = Decoder(2, [[(0, "a"), (0, "b")]], [""])
CALLS = (price, classes, spare)


def ring(words, signs=1):
    """A ring of states that write these words."""
    return Decoder(signs, [[((at + 1) % len(words), word)] * signs for at, word in enumerate(words)], [""] * len(words))


class Examples(unittest.TestCase):
    def test_prices(self):
        self.assertEqual([is_steady(CODE, LOST), price(CODE, LOST), price(HALF, [("lost", 0)]), classes(CODE, LOST)],
                         [True, (2, 1), (1, 2), [(0, 1)]])
        self.assertEqual([price(TURNING, [("lost", 0)]), price(PHASE, [("lost", 0)]), classes(TURNING, [("lost", 1)])],
                         [(1, 1), None, [(0,), (1,)]])
        self.assertEqual([1 <= spare(TURNING, [("lost", 0)]) <= 528, spare(PHASE, [("lost", 0)])], [True, None])
        self.assertEqual([is_steady(ONCE, [("lost", 0)]), is_steady(ONCE, []), price(ONCE, []), classes(ONCE, [])],
                         [False, True, (0, 1), [(0,), (1,)]])
        check_raised(self, NotSteady, {}, price, ONCE, [("lost", 0)])


class Steady(unittest.TestCase):
    def test_against_all_passings_with_one_error(self):
        met = {True: 0, False: 0}
        for decoder, kinds in [*cases(121, 60), *place_cases(121, 150), *steady_cases(121, 100)]:
            told = is_steady(decoder, kinds)
            # So many signs show it: what is behind an error leads through unlike pairs of states to where it shows.
            most = 6 if decoder.signs == 1 else 4
            if told or decoder.states < 4:
                self.assertIs(told, plain_steady.steady(decoder, kinds, most + 2 * (decoder.signs < 3)))
            met[told] += 1
        self.assertGreater(min(met.values()), 80)

    def test_no_kinds_and_nothing_accepted(self):
        for decoder, _ in cases(122, 10):
            self.assertIs(is_steady(decoder, []), True)
            self.assertIs(is_steady(Decoder(decoder.signs, decoder.steps, [None] * decoder.states),
                                    all_kinds(decoder.signs)), True)

    def test_an_error_that_only_a_rejected_line_shows(self):
        # Sign 1 is never accepted as it was sent; turned from 0 it leads nowhere.
        decoder = Decoder(2, [[(0, "a"), None]], [""])
        self.assertEqual([is_steady(decoder, [kind]) for kind in all_kinds(2)], [True, False, True, False, False, False])
        dead = Decoder(2, [[(0, "a"), (1, "")], [(1, "b"), (1, "")]], ["", None])
        self.assertEqual([is_steady(dead, [kind]) for kind in all_kinds(2)], [True, False, True, False, False, False])
        # A put sign that leads a run out of what is accepted, but only two signs later.
        late = Decoder(1, [[(1, "")], [(2, "")], [None]], ["", "", ""])
        self.assertEqual([is_steady(late, [("put", 0)]), is_steady(late, [("lost", 0)])], [False, False])

    def test_kinds_in_any_order(self):
        dice = random.Random(123)
        for decoder, kinds in steady_cases(123, 40):
            told = mixed(dice, kinds)
            for call in (is_steady, *CALLS):
                self.assertEqual(call(decoder, kinds), call(kinds=told, decoder=decoder))

    def test_the_order_of_errors(self):
        for call in (is_steady, *CALLS):
            for decoder in NO_DECODERS:
                check_refused(self, InvalidDecoder, decoder, call, decoder, None)
            for kinds in NO_KINDS:
                check_refused(self, InvalidKinds, kinds, call, PHASE, kinds)
        # Endless, and not steady: what is not steady comes first.
        unsteady = Decoder(2, [[(1, "x"), (0, "y")], [(0, ""), (1, "y")]], ["", None])
        self.assertEqual(least_endless(unsteady, [("lost", 0), ("put", 0)]), 2)
        for call in CALLS:
            check_raised(self, NotSteady, {}, call, unsteady, [("lost", 0), ("put", 0)])


class Prices(unittest.TestCase):
    def test_harms_lie_between(self):
        met = set()
        for decoder, kinds in steady_cases(124, 350):
            told, more = price(decoder, kinds), spare(decoder, kinds)
            self.assertEqual(told is None, harm(decoder, kinds, 1) is None)
            self.assertEqual(told is None, least_endless(decoder, kinds) is not None)
            if told is None:
                self.assertIsNone(more)
                continue
            self.assertEqual(math.gcd(*told), 1)
            self.assertTrue(0 <= more <= 66 * decoder.states ** 3)
            for many in range(1, 6):
                self.assertTrue(told[0] * many <= harm(decoder, kinds, many) * told[1]
                                <= told[0] * many + more * told[1])
            if is_pinned(decoder, kinds):
                self.assertEqual(slope(decoder, kinds), told)
            met.add(told)
        self.assertTrue({(0, 1), (1, 1), (2, 1), (1, 2)} <= met, met)

    def test_if_one_error_costs_the_price_all_do(self):
        met = 0
        for decoder, kinds in steady_cases(125, 150):
            told = price(decoder, kinds)
            if told is not None and told == (harm(decoder, kinds, 1), 1):
                self.assertEqual([harm(decoder, kinds, many) for many in (2, 4)], [2 * told[0], 4 * told[0]])
                met += told[0] > 0
        self.assertGreater(met, 30)

    def test_nothing_is_written_in_the_part(self):
        silent = Decoder(2, [[(1, "abc"), (0, "")], [(1, ""), (1, "")]], ["abc", ""])
        self.assertEqual(price(silent, all_kinds(2)), (0, 1))
        self.assertEqual(price(ring(["", "", ""]), all_kinds(1)), (0, 1))
        self.assertEqual(price(NOTHING, all_kinds(2)), (0, 1))

    def test_one_word_has_quotients(self):
        self.assertEqual([price(ring(["a", "", ""]), [("lost", 0)]), price(ring(["a", "a", ""]), [("put", 0)]),
                          price(ring(["aaa", "aa"]), [("lost", 0), ("put", 0)]), price(ring(["ab", "", "", "a", "b"]), [("lost", 0)])],
                         [(1, 3), (2, 3), (5, 2), (4, 5)])
        two = Decoder(2, [[(1, "a"), (0, "aa")], [(0, ""), (1, "aa")]], ["", ""])
        self.assertEqual([price(two, [kind]) for kind in all_kinds(2)], [(1, 2), (2, 1), (1, 2), (2, 1), (3, 2), (3, 2)])
        self.assertEqual(price(two, [("turned", 0, 1), ("lost", 0)]), (3, 2))

    def test_places(self):
        self.assertEqual([price(COPY, [kind]) for kind in all_kinds(2)], [(1, 1)] * 6)
        tripled = Decoder(3, [[(0, "aaa"), (0, "bbb"), (0, "aab")]], [""])
        self.assertEqual([price(tripled, [("turned", 0, 1)]), price(tripled, [("turned", 0, 2)]),
                          price(tripled, [("turned", 0, 2), ("turned", 2, 1)])], [(3, 1), (1, 1), (2, 1)])

    def test_several_parts(self):
        # Sign 2 leads on from one part to the next one, and no error does; each has its own cost.
        steps = [[(0, "a"), (0, "b"), (1, "")], [(1, "aa"), (1, "bb"), (2, "")], [(2, "a"), (2, "a"), (2, "a")]]
        decoder = Decoder(3, steps, ["", "", ""])
        self.assertEqual([price(decoder, kinds) for kinds in ([("turned", 0, 1)], [("lost", 0)], [])],
                         [(2, 1), (2, 1), (0, 1)])
        self.assertEqual(classes(decoder, [("turned", 0, 1)]), [(0,), (1,), (2,)])
        behind = Decoder(3, [[(0, "aa"), (0, "bb"), (1, "")], [(2, "a"), (2, "a"), None], [(1, ""), (1, ""), None]],
                         ["", "", ""])
        self.assertEqual([price(behind, [("turned", 0, 1)]), price(behind, [("lost", 0)])], [(2, 1), (2, 1)])
        slow = Decoder(3, [[(0, ""), (0, ""), (1, "")], [(2, "a"), (2, "a"), None], [(1, ""), (1, ""), None]], [""] * 3)
        self.assertEqual([price(slow, [("turned", 0, 1)]), price(slow, [("lost", 0)])], [(0, 1), (1, 2)])

    def test_many_gaps(self):
        # Outside of the last state there are too many gaps, but an error costs something in that one alone.
        words = [[(at + 1, "a"), (at + 1, "b")] for at in range(39)]
        kinds = [("turned", 0, 1)]
        told = Decoder(2, [*words, [(39, "aab"), (39, "b")]], [""] * 40)
        self.assertRaises(TooMany, gaps, Pairs(told, kinds), None, 1)
        self.assertEqual(price(told, kinds), (2, 1))
        # One ring of all states: too many gaps would have to lead from it to a place, and none does.
        self.assertEqual(price(Decoder(2, [*words, [(0, "aab"), (0, "b")]], [""] * 40), kinds), (2, 1))

    def test_too_many(self):
        # Behind an error both runs go along the chain, one state apart, and may write too many texts.
        chain = [[*[(min(at + 1, 30), letter) for letter in "abcd"], (0, "")] for at in range(31)]
        told, kinds = Decoder(5, chain, [""] * 31), [("lost", 0)]
        self.assertRaises(TooMany, gaps, Pairs(told, kinds), (0, 0), 1)
        for call in (price, spare):
            with self.assertRaises(TooMany) as caught:
                call(told, kinds)
            self.assertGreater(caught.exception.count, 20000)


class Classes(unittest.TestCase):
    def test_against_the_words(self):
        for decoder, kinds in [*steady_cases(126, 150), *cases(126, 20)]:
            if is_steady(decoder, kinds):
                told = classes(decoder, kinds)
                self.assertEqual(told, plain_steady.classes(decoder, plain.PlainPairs(decoder, kinds).useful))
                self.assertEqual(sorted(state for states in told for state in states),
                                 [state for state in range(decoder.states) if decoder.trimmed()[state]])

    def test_signs_lead_classes_to_classes(self):
        for decoder, kinds in steady_cases(127, 80):
            class_of = {state: states for states in classes(decoder, kinds) for state in states}
            for states in classes(decoder, kinds):
                for sign in range(decoder.signs):
                    entries = [decoder.steps[state][sign] for state in states]
                    self.assertEqual(len({entry and class_of.get(entry[0]) for entry in entries}), 1)

    def test_no_kinds(self):
        self.assertEqual(classes(CODE, []), [(0,), (1,)])
        self.assertEqual(classes(NOTHING, LOST), [])
        self.assertEqual(classes(Decoder(1, [[(2, "")], [(1, "")], [None]], [None, "", ""]), []), [(0,), (2,)])

    def test_a_told_list_is_the_askers_own(self):
        told = classes(CODE, LOST)
        told.append("more")
        self.assertEqual(classes(CODE, LOST), [(0, 1)])

    def test_pairs_are_left_as_they_are(self):
        pairs = Pairs(CODE, LOST)
        self.assertEqual((price(CODE, LOST), pairs.useful), ((2, 1), Pairs(CODE, LOST).useful))


if __name__ == "__main__":
    unittest.main()
