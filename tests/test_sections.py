"""Pinned decoders [101], their places [102] and sections [103, 104]."""

import functools
import random
import unittest

import plain
import plain_sections
from helpers import CODE, LOST, NO_DECODERS, NO_KINDS, NOTHING, PHASE, cases, check_raised, check_refused, mixed
from makers import place_cases
from spoiltline.decoders import Decoder
from spoiltline.endless import least_endless
from spoiltline.errors import InvalidDecoder, InvalidKinds, NotPinned, TooMany
from spoiltline.gaps import gaps, price_between
from spoiltline.harms import harm
from spoiltline.pairs import Pairs
from spoiltline.passings import all_kinds
from spoiltline.sections import is_pinned, places, sections

COPY = Decoder(2, [[(0, "a"), (0, "b")]], [""])
MODE = Decoder(3, [[(0, "x"), (1, ""), None], [(1, "a"), (1, "b"), (1, "c")]], ["", ""])
LOOP = Decoder(1, [[(0, "x")]], [""])
CALLS = (is_pinned, places, sections)
price = functools.lru_cache(None)(price_between)


def renamed(decoder, states, signs, letters):
    """The decoder with other names, and its kinds likewise; state 0 keeps its name."""
    steps = [[None] * decoder.signs for _ in range(decoder.states)]
    ends = [None] * decoder.states
    for state, row in enumerate(decoder.steps):
        for sign, entry in enumerate(row):
            if entry is not None:
                steps[states[state]][signs[sign]] = (states[entry[0]], entry[1].translate(letters))
        end = decoder.ends[state]
        ends[states[state]] = None if end is None else end.translate(letters)
    return Decoder(decoder.signs, steps, ends)


class Examples(unittest.TestCase):
    def test_pinned(self):
        self.assertEqual([is_pinned(COPY, [("lost", 0)]), is_pinned(CODE, LOST), is_pinned(CODE, [("lost", 1)])],
                         [True, False, True])
        self.assertEqual([sections(Decoder(1, [[(0, "x")]], [None]), [("lost", 0)]), is_pinned(LOOP, [("lost", 0)])],
                         [[], False])

    def test_sections(self):
        self.assertEqual([places(COPY, [("lost", 0)]), sections(COPY, [("lost", 0)])],
                         [[0], [(-1, 0, 0, 0), (0, -2, 0, 0), (0, 0, 1, 1)]])
        self.assertEqual(sections(CODE, [("lost", 1)]),
                         [(-1, 0, 0, 0), (0, -2, 0, 0), (0, -2, 1, 1), (0, 0, 1, 2)])
        self.assertEqual([places(MODE, [("lost", 2)]), sections(MODE, [("lost", 2)])],
                         [[1], [(-1, -2, 0, 0), (-1, 1, 0, 0), (1, -2, 0, 0), (1, 1, 1, 1)]])

    def test_not_pinned(self):
        check_raised(self, NotPinned, {}, sections, CODE, LOST)


class Pinned(unittest.TestCase):
    def test_against_the_words(self):
        met = {True: 0, False: 0}
        for decoder, kinds in [*place_cases(101, 500), *cases(101, 40)]:
            pairs = plain.PlainPairs(decoder, kinds)
            told = plain_sections.pinned(pairs)
            self.assertIs(is_pinned(decoder, kinds), told)
            sorts = plain_sections.sorts(pairs)
            self.assertEqual(places(decoder, kinds), [index for index, sort in enumerate(sorts) if sort == "place"])
            met[told] += 1
        self.assertGreater(min(met.values()), 100)

    def test_a_bad_knot_behind_many_errors(self):
        # Only three signs 1 that come for signs 0 lead to the mode that exchanges the letters.
        steps = [[(1, ""), (3, "")], [(2, ""), None], [(5, ""), None], [None, (4, "")], [None, (6, "")],
                 [(5, "a"), (5, "b")], [(6, "b"), (6, "a")]]
        decoder = Decoder(2, steps, [None] * 5 + [""] * 2)
        self.assertEqual((least_endless(decoder, [("turned", 0, 1)]), is_pinned(decoder, [("turned", 0, 1)])), (3, False))
        self.assertEqual([harm(decoder, [("turned", 0, 1)], many) for many in (1, 2, 3)], [1, 2, None])
        check_raised(self, NotPinned, {}, sections, decoder, [("turned", 0, 1)])
        self.assertEqual((places(decoder, [("turned", 0, 1)]), is_pinned(decoder, [])), ([0, 2], True))

    def test_rings_with_an_error_that_come_through_a_place_or_not(self):
        # The one ring comes back through the place of both letters, the other one goes on writing one of them.
        self.assertIs(is_pinned(COPY, all_kinds(2)), True)
        self.assertIs(is_pinned(LOOP, [("put", 0)]), False)
        self.assertIs(is_pinned(LOOP, []), True)
        quiet = Decoder(2, [[(0, ""), (1, "a")], [None, None]], ["", ""])
        self.assertIs(is_pinned(quiet, [("lost", 0), ("put", 0)]), True)
        self.assertIs(is_pinned(quiet, [("lost", 1)]), True)
        back = Decoder(2, [[(1, ""), (0, "a")], [(0, ""), None]], ["", ""])
        self.assertIs(is_pinned(back, [("lost", 1)]), False)

    def test_no_kinds_and_nothing_accepted(self):
        for decoder, kinds in place_cases(102, 40):
            self.assertIs(is_pinned(decoder, []), True)
            self.assertEqual(set(error for _, _, error, _ in sections(decoder, ())) - {0}, set())
        for kinds in ([], LOST, all_kinds(2)):
            self.assertEqual([call(NOTHING, kinds) for call in CALLS], [True, [], []])

    def test_kinds_twice_and_in_another_order(self):
        dice = random.Random(103)
        for decoder, kinds in place_cases(103, 60):
            told = mixed(dice, kinds)
            self.assertEqual([call(decoder, kinds) for call in CALLS[:2]], [call(decoder, told) for call in CALLS[:2]])
            if is_pinned(decoder, kinds):
                self.assertEqual(sections(decoder, kinds), sections(kinds=told, decoder=decoder))

    def test_the_order_of_errors(self):
        for call in CALLS:
            for decoder in NO_DECODERS:
                check_refused(self, InvalidDecoder, decoder, call, decoder, None)
            for kinds in NO_KINDS:
                check_refused(self, InvalidKinds, kinds, call, PHASE, kinds)


class Sections(unittest.TestCase):
    def test_against_all_courses(self):
        met = {"rows": 0, "round": 0, "between": 0}
        for decoder, kinds in [*place_cases(104, 900), *cases(104, 20)]:
            pairs = plain.PlainPairs(decoder, kinds)
            if not is_pinned(decoder, kinds):
                check_raised(self, NotPinned, {}, sections, decoder, kinds)
                continue
            told, found = sections(decoder, kinds), plain_sections.plain_sections(pairs, price)
            if found is not None:
                self.assertEqual(told, found)
                met["rows"] += len(told)
                met["round"] += "round" in plain_sections.sorts(pairs)
                met["between"] += any(start >= 0 and goal >= 0 and cost for start, goal, _, cost in told)
        self.assertGreater(min(met.values()), 40)

    def test_the_harm_is_the_greatest_sum(self):
        met = 0
        for decoder, kinds in place_cases(105, 250):
            if is_pinned(decoder, kinds):
                told = sections(decoder, kinds)
                for many in range(4):
                    self.assertEqual(harm(decoder, kinds, many), plain_sections.harm_of_sections(told, many))
                met += any(cost for _, _, _, cost in told)
        self.assertGreater(met, 40)

    def test_the_least_number_of_errors_is_told_whatever_its_price(self):
        # Only an error leads to the pair of both copies of the one state, where all is written alike.
        copies = Decoder(2, [[(1, ""), (2, "")], [(1, "a"), (1, "b")], [(2, "a"), (2, "b")]], [None, "", ""])
        self.assertEqual(sections(copies, [("turned", 0, 1)]),
                         [(-1, 0, 0, 0), (-1, 1, 1, 0), (-1, 2, 0, 0), (0, -2, 0, 0), (0, 0, 1, 1), (1, -2, 0, 0),
                          (1, 1, 1, 1), (2, -2, 0, 0), (2, 2, 1, 1)])

    def test_each_greater_number_only_where_the_price_grows(self):
        for decoder, kinds in place_cases(106, 300):
            if is_pinned(decoder, kinds):
                told = sections(decoder, kinds)
                self.assertEqual(told, sorted(told))
                for one, other in zip(told, told[1:]):
                    if one[:2] == other[:2]:
                        self.assertTrue(one[2] < other[2] and one[3] < other[3], told)
                outside = [pair for pair in Pairs(decoder, kinds).useful if Pairs(decoder, kinds).knot_of(pair)
                           not in places(decoder, kinds)]
                self.assertTrue(all(row[2] <= len(outside) + 1 for row in told))

    def test_other_names(self):
        dice = random.Random(107)
        met = 0
        for decoder, kinds in place_cases(107, 200):
            if not is_pinned(decoder, kinds):
                continue
            states = [0, *dice.sample(range(1, decoder.states), decoder.states - 1)]
            signs = dice.sample(range(decoder.signs), decoder.signs)
            again = renamed(decoder, states, signs, str.maketrans("abc", "qaz"))
            told = [(kind[0], *[signs[sign] for sign in kind[1:]]) for kind in kinds]
            pairs, others = Pairs(decoder, kinds), Pairs(again, told)
            knots = {-1: -1, -2: -2}
            for index, knot in enumerate(pairs.knots):
                knots[index] = others.knot_of((states[knot[0][0]], states[knot[0][1]]))
            found = [(knots[start], knots[goal], errors, cost) for start, goal, errors, cost in sections(decoder, kinds)]
            self.assertEqual(sections(again, told), sorted(found))
            met += len(found)
        self.assertGreater(met, 100)

    def test_round_knots_one_behind_the_other(self):
        # Each state writes the letter round and round; errors lead on, and no way comes back.
        for states in (2, 5, 8):
            steps = [[(at, "a"), (at + 1, "") if at + 1 < states else None] for at in range(states)]
            decoder = Decoder(2, steps, [""] * states)
            for kinds in ([("lost", 1)], [("lost", 1), ("put", 1)]):
                self.assertEqual((is_pinned(decoder, kinds), sections(decoder, kinds)), (True, [(-1, -2, 0, 0)]))
            told = sections(decoder, [("turned", 0, 1)])
            self.assertEqual(told, [(-1, -2, errors, errors) for errors in range(states)])

    def test_answers_are_new_lists(self):
        for call in (places, sections):
            told = call(CODE, [("lost", 1)])
            again = list(told)
            told.clear()
            self.assertEqual(call(CODE, [("lost", 1)]), again)

    def test_too_many_gaps(self):
        words = [[(at + 1, "a"), (at + 1, "b")] for at in range(39)]
        decoder = Decoder(2, [*words, [None, None]], [None] * 39 + [""])
        with self.assertRaises(TooMany) as caught:
            sections(decoder, [("lost", 0)])
        self.assertGreater(caught.exception.count, 20000)
        self.assertRaises(TooMany, gaps, Pairs(decoder, [("lost", 0)]), None, 1)
        self.assertEqual((is_pinned(decoder, LOST), places(decoder, LOST)), (True, []))


if __name__ == "__main__":
    unittest.main()
