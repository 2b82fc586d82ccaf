"""Decoders that come back, and those that write one word [131]; periods [132], whole rows [133], lines together [134]."""

import random
import unittest

import plain_steady
from helpers import (CODE, HALF, LOST, NO_COUNTS, NO_DECODERS, NO_KINDS, NOTHING, PHASE, cases, check_raised,
                     check_refused, late_decoder, mixed, round_decoder, small_decoder)
from makers import place_decoder, steady_cases
from spoiltline.decoders import Decoder
from spoiltline.endless import least_endless
from spoiltline.errors import (Endless, InvalidCount, InvalidDecoder, InvalidKinds, NotReturning, NotSteady, OneWord,
                               TooMany)
from spoiltline.harms import harm
from spoiltline.passings import all_kinds
from spoiltline.returning import comes_back, one_word, period, together, whole_row
from spoiltline.sections import is_pinned
from spoiltline.staircases import harm_row
from spoiltline.steady import is_steady, price

TURNING = Decoder(2, [[(1, "xx"), (0, "xy")], [(0, ""), (1, "yx")]], ["", ""])
AWAY = Decoder(1, [[(1, "x")], [(1, "")]], ["", ""])
NO_SMALL_COUNTS = (7, 400, 10 ** 30, *NO_COUNTS)


def small_decoders(seed, many):
    dice = random.Random(seed)
    makers = (small_decoder, late_decoder, round_decoder, place_decoder)
    return [decoder for decoder in [dice.choice(makers)(dice) for _ in range(many)] if decoder.states < 5]


def cerny(states):
    """One whose shortest line that leads all states together has (states - 1) ** 2 signs."""
    steps = [[((at + 1) % states, ""), (at if at else 1, "")] for at in range(states)]
    return Decoder(2, steps, [""] * states)


class Examples(unittest.TestCase):
    def test_words_and_lines(self):
        self.assertEqual([comes_back(CODE), one_word(CODE), one_word(HALF), comes_back(AWAY)], [True, None, "x", False])
        self.assertEqual([together(CODE), together(HALF)], [(0,), None])

    def test_rows(self):
        self.assertEqual([whole_row(CODE, LOST, 3), whole_row(TURNING, [("lost", 0)], 1),
                          whole_row(TURNING, [("lost", 0)], 3)], [(1, [0]), None, (2, [0, 2])])
        self.assertEqual([period(CODE, LOST) <= 4, period(TURNING, [("lost", 0)]) % 2, period(HALF, [("lost", 0)]) % 2],
                         [True, 0, 0])
        check_raised(self, OneWord, {}, whole_row, HALF, [("lost", 0)], 3)


class ComingBack(unittest.TestCase):
    def test_against_plain_trying(self):
        met = {True: 0, False: 0}
        for decoder in small_decoders(131, 300):
            self.assertIs(comes_back(decoder), plain_steady.comes_back(decoder))
            met[comes_back(decoder)] += 1
        self.assertGreater(min(met.values()), 40)

    def test_states_that_do_not_count(self):
        # From state 1 no line leads back, but none leads from it to an end either; to state 2 none leads.
        decoder = Decoder(2, [[(0, "a"), (1, "b")], [(1, ""), None], [(2, ""), None]], ["", None, ""])
        self.assertEqual([comes_back(decoder), one_word(decoder), together(decoder)], [True, "a", ()])
        for kinds in ([], [("put", 0)]):
            self.assertEqual(period(decoder, kinds), 1)

    def test_no_state_is_told_true(self):
        self.assertEqual([comes_back(NOTHING), together(NOTHING), period(NOTHING, LOST)], [True, None, 1])
        check_raised(self, OneWord, {}, whole_row, NOTHING, LOST, 3)
        silent = Decoder(2, [[(0, "a"), (0, "b")]], [None])
        self.assertEqual([one_word(silent), whole_row(silent, LOST, 1), whole_row(silent, LOST, 0)],
                         [None, (1, [0]), None])

    def test_one_word(self):
        met = {}
        for decoder in small_decoders(132, 250):
            told = one_word(decoder)
            self.assertEqual(told, plain_steady.one_word(decoder, 8 if decoder.signs < 3 else 6))
            met[told] = met.get(told, 0) + 1
        self.assertTrue({None, "", "a", "ab"} <= set(met), met)
        self.assertGreater(met[None], 20)

    def test_the_empty_text_and_longer_words(self):
        self.assertEqual(one_word(Decoder(1, [[(1, "abc")], [(1, "a")]], ["z", None])), "")
        self.assertEqual(one_word(Decoder(1, [[None]], [""])), "")
        steps = [[(1, "ab"), (2, "abc")], [(0, "cd"), None], [(0, "d"), (1, "dab")]]
        self.assertEqual(one_word(Decoder(2, steps, ["", "", ""])), "abcd")
        steps[2][1] = (1, "dba")
        self.assertIsNone(one_word(Decoder(2, steps, ["", "", ""])))
        self.assertEqual(one_word(Decoder(2, [[(0, "ab"), (0, "")]], [""])), "ab")
        self.assertEqual(one_word(Decoder(2, [[(0, "aa"), (0, "aaa")]], [""])), "a")

    def test_what_is_no_decoder(self):
        for call in (comes_back, one_word, together):
            for decoder in NO_DECODERS:
                check_refused(self, InvalidDecoder, decoder, call, decoder)


class Periods(unittest.TestCase):
    def test_against_the_harms(self):
        met = {"one": 0, "many": 0, "above": 0}
        for decoder, kinds in steady_cases(133, 300):
            if price(decoder, kinds) is None or not comes_back(decoder):
                continue
            errors, (gain, many) = period(decoder, kinds), price(decoder, kinds)
            self.assertTrue(1 <= errors <= decoder.states ** 2)
            self.assertEqual(errors * gain % many, 0)
            rise, pinned, one = errors * gain // many, is_pinned(decoder, kinds), one_word(decoder) is not None
            row = harm_row(decoder, kinds, 60) if pinned else [harm(decoder, kinds, count) for count in range(9)]
            if not one:
                self.assertTrue(all(row[count + errors] >= row[count] + rise for count in range(len(row) - errors)))
            if pinned:
                self.assertTrue(all(row[count + errors] == row[count] + rise for count in range(40, 60 - errors)))
            elif errors < 4:
                self.assertEqual(row[-1] - row[-1 - errors], rise)
            met["one" if one else "many"] += 1
            met["above"] += errors > 1
        self.assertGreater(min(met.values()), 20)

    def test_rings_of_one_word(self):
        for states in (2, 3, 5):
            decoder = Decoder(1, [[((at + 1) % states, "" if at else "a")] for at in range(states)], [""] * states)
            for kinds in ([("lost", 0)], all_kinds(1)):
                self.assertEqual((price(decoder, kinds), period(decoder, kinds)), ((1, states), states))
                row = [harm(decoder, kinds, many) for many in range(3 * states)]
                self.assertEqual(row[2 * states:], [number + 1 for number in row[states:2 * states]])

    def test_two_signs_of_one_word(self):
        # On one side two lost signs make a round, on the other one three that are put in.
        steps = [[((at + 3) % 6, "a" if at > 2 else ""), ((at + 2) % 6, "a" if at > 3 else "")] for at in range(6)]
        decoder = Decoder(2, steps, [""] * 6)
        self.assertEqual(period(decoder, [("lost", 0)]), 2)
        self.assertEqual(period(decoder, [("put", 1)]), 3)
        self.assertEqual(price(decoder, [("lost", 0), ("put", 1)]), (1, 2))
        row = [harm(decoder, [("lost", 0), ("put", 0)], many) for many in range(10)]
        self.assertEqual(row[9] - row[9 - period(decoder, [("lost", 0), ("put", 0)])], 1)

    def test_nothing_costs_anything(self):
        self.assertEqual(period(CODE, []), 1)
        self.assertEqual(period(Decoder(1, [[(0, "")]], ["abc"]), all_kinds(1)), 1)
        self.assertEqual(whole_row(CODE, [], 6), (1, [0]))


class WholeRows(unittest.TestCase):
    def test_against_the_harms(self):
        met = {}
        for decoder, kinds in steady_cases(134, 250):
            if price(decoder, kinds) is None or not comes_back(decoder) or one_word(decoder) is not None:
                continue
            gain = price(decoder, kinds)[0]
            row = [harm(decoder, kinds, many) for many in range(5)]
            for most in (0, 1, 4):
                told = whole_row(decoder, kinds, most)
                found = [many for many in range(1, most + 1) if row[many] == gain * many]
                self.assertEqual(told, (found[0], row[:found[0]]) if found else None)
                if told:
                    self.assertEqual(period(decoder, kinds) % told[0], 0)
                    met[told[0]] = met.get(told[0], 0) + 1
        self.assertGreater(met[1], 20)

    def test_most(self):
        kinds = [("lost", 0)]
        self.assertEqual([whole_row(TURNING, kinds, most) for most in (0, 1, 2, 6)],
                         [None, None, (2, [0, 2]), (2, [0, 2])])
        for most in NO_SMALL_COUNTS:
            check_refused(self, InvalidCount, most, whole_row, TURNING, kinds, most)
        told = whole_row(TURNING, kinds, 6)
        told[1].append(9)
        self.assertEqual(whole_row(most=6, kinds=mixed(random.Random(1), kinds), decoder=TURNING), (2, [0, 2]))

    def test_the_order_of_errors(self):
        unsteady = Decoder(2, [[(1, "x"), (0, "y")], [(0, ""), (1, "y")]], ["", None])
        gone = Decoder(2, [[(1, "x"), (0, "y")], [(2, ""), (1, "y")], [(1, "x"), (2, "")]], ["", "", ""])
        ways = Decoder(1, [[(1, "x")], [(2, "x")], [(1, "")]], ["", "", ""])
        kinds = [("lost", 0)]
        self.assertEqual((least_endless(PHASE, kinds), least_endless(gone, kinds), is_steady(gone, kinds)), (1, 1, True))
        self.assertEqual((comes_back(gone), one_word(gone), comes_back(ways), one_word(ways)), (False, "y", False, ""))

        def row_of_six(decoder, kinds):
            return whole_row(decoder, kinds, 6)

        for call in (period, row_of_six):
            for decoder in NO_DECODERS:
                check_refused(self, InvalidDecoder, decoder, call, decoder, None)
            for wrong in NO_KINDS:
                check_refused(self, InvalidKinds, wrong, call, unsteady, wrong)
            check_raised(self, NotSteady, {}, call, unsteady, kinds)
            check_raised(self, Endless, {"errors": 1}, call, PHASE, kinds)
            check_raised(self, Endless, {"errors": 1}, call, gone, kinds)
            check_raised(self, NotReturning, {}, call, ways, kinds)
            check_raised(self, NotReturning, {}, call, AWAY, [])
        check_raised(self, OneWord, {}, whole_row, HALF, kinds, 0)
        for most in NO_SMALL_COUNTS:
            for decoder in (unsteady, PHASE, gone, ways, HALF, NOTHING):
                check_refused(self, InvalidCount, most, whole_row, decoder, [], most)
            check_refused(self, InvalidKinds, most, whole_row, unsteady, most, most)


class Together(unittest.TestCase):
    def test_against_plain_trying(self):
        met = {}
        for decoder in [*small_decoders(135, 300), *[decoder for decoder, _ in cases(135, 20) if decoder.states < 5]]:
            told, found = together(decoder), plain_steady.together(decoder, 6 if decoder.signs < 3 else 5)
            if found is None:
                self.assertTrue(told is None or len(told) > 5)
            else:
                self.assertEqual(len(told), len(found))
                self.assertTrue(self.leads_together(decoder, told))
            met[None if told is None else len(told)] = 1
        self.assertTrue({None, 0, 1, 2, 4} <= set(met), met)

    def leads_together(self, decoder, line):
        trimmed = decoder.trimmed()
        told = [plain_steady.leads(decoder, state, line) for state in range(decoder.states) if trimmed[state]]
        return None not in told and len({state for state, _ in told}) == 1 and trimmed[told[0][0]]

    def test_long_lines(self):
        for states in (2, 3, 4, 6, 9):
            told = together(cerny(states))
            self.assertEqual(len(told), (states - 1) ** 2)
            self.assertTrue(self.leads_together(cerny(states), told))

    def test_states_that_are_told_false(self):
        # Sign 1 leads all states together to one from which no line is accepted.
        decoder = Decoder(3, [[(1, ""), (2, ""), (0, "")], [(0, ""), (2, ""), (1, "")], [(2, "")] * 3], ["", "", None])
        self.assertIsNone(together(decoder))
        holes = Decoder(2, [[(1, ""), (0, "")], [(1, ""), None]], ["", ""])
        self.assertEqual(together(holes), (0,))

    def test_too_many_only_beyond_20000_sets(self):
        for seed in range(6):
            dice = random.Random(seed)
            decoder = Decoder(3, [[(dice.randrange(14), "") for _ in range(3)] for _ in range(14)], [""] * 14)
            told = together(decoder)
            self.assertTrue(told is None or self.leads_together(decoder, told))
        wide = cerny(40)
        with self.assertRaises(TooMany) as caught:
            together(wide)
        self.assertGreater(caught.exception.count, 20000)
        # Where two states never come together no sets have to be looked at.
        turned = Decoder(2, [[((at + 1) % 40, ""), ((at * 3) % 40, "")] for at in range(40)], [""] * 40)
        self.assertIsNone(together(turned))


if __name__ == "__main__":
    unittest.main()
