"""Codecs [151, 152], with checks [153] and with markers [154, 155]."""

import itertools
import random
import unittest

from helpers import NO_DECODERS, NO_INTEGERS, PHASE, cases, check_raised, check_refused, small_decoder
from spoiltline.codecs import copier, escaped, run_lengths, shifted, with_check, with_marker
from spoiltline.decoders import Decoder
from spoiltline.endless import least_endless
from spoiltline.errors import InvalidDecoder, InvalidPeriod, InvalidSign, InvalidSigns, TooMany
from spoiltline.harms import harm
from spoiltline.passings import all_kinds

ENDED = Decoder(2, [[(0, "a"), (0, "b")]], ["z"])
NO_SIGNS = (0, 6, -1, 10 ** 30, *NO_INTEGERS)


class Examples(unittest.TestCase):
    def test_codecs(self):
        self.assertEqual([copier(2).written((0, 1, 1)), escaped(2, 1).written((0, 1, 0, 1, 1)),
                          escaped(2, 1).written((0, 1))], ["abb", "aaabb", None])
        self.assertEqual([shifted(3).written((0, 2, 1, 0, 2, 1)), run_lengths(2).written((1, 1, 0, 0)),
                          run_lengths(2).states], ["abxaxb", "bba", 3])

    def test_checks_and_markers(self):
        checked = with_check(copier(2), 2)
        self.assertEqual([checked.written((0, 1, 1, 1, 1, 0)), checked.written((0, 1, 0)), checked.states,
                          checked.written(())], ["abbb", None, 5, ""])
        self.assertEqual(checked.steps, (((1, "a"), (2, "b")), ((3, "a"), (4, "b")), ((4, "a"), (3, "b")),
                                         ((0, ""), None), (None, (0, ""))))
        self.assertEqual([with_marker(run_lengths(2)).written((0, 0, 2, 1, 0)),
                          with_marker(run_lengths(2)).written((0, 2))], ["ab", None])
        self.assertEqual([with_check(ENDED, 1).ends, with_check(ENDED, 1).written((0, 0, 1, 1)),
                          with_marker(ENDED).ends, with_marker(ENDED).written((0, 2, 1))],
                         [("z", None, None), "abz", ("z",), "azbz"])
        check_raised(self, InvalidSigns, {"given": 1}, shifted, 1)
        check_raised(self, InvalidSign, {"given": 2}, escaped, 2, 2)


class Codecs(unittest.TestCase):
    def test_copiers(self):
        self.assertEqual(copier(5), Decoder(5, [[(0, "a"), (0, "b"), (0, "c"), (0, "d"), (0, "e")]], [""]))
        self.assertEqual(copier(signs=1), Decoder(1, [[(0, "a")]], [""]))

    def test_escaped_ones(self):
        self.assertEqual(escaped(1, 0), Decoder(1, [[(1, "")], [(0, "aa")]], ["", None]))
        self.assertEqual(escaped(3, 1), Decoder(3, [[(0, "a"), (1, ""), (0, "c")], [(0, "aa"), (0, "bb"), (0, "cc")]],
                                                ["", None]))
        for signs in range(1, 6):
            for mark in range(signs):
                told = escaped(mark=mark, signs=signs)
                self.assertEqual(told.steps[0][mark], (1, ""))
                self.assertEqual(told.written((mark, mark)), "abcde"[mark] * 2)

    def test_shifted_ones(self):
        self.assertEqual(shifted(2), Decoder(2, [[(0, "a"), (1, "")], [(1, "ax"), (0, "")]], ["", ""]))
        self.assertEqual(shifted(5), Decoder(5, [[(0, "a"), (0, "b"), (0, "c"), (0, "d"), (1, "")],
                                                 [(1, "ax"), (1, "bx"), (1, "cx"), (1, "dx"), (0, "")]], ["", ""]))

    def test_run_lengths(self):
        self.assertEqual(run_lengths(1), Decoder(1, [[(1, "")], [(0, "a")]], ["", None]))
        self.assertEqual(run_lengths(2), Decoder(2, [[(1, ""), (2, "")], [(0, "a"), (0, "aa")], [(0, "b"), (0, "bb")]],
                                                 ["", None, None]))
        self.assertEqual(run_lengths(5).steps[5], ((0, "e"), (0, "ee"), (0, "eee"), (0, "eee"), (0, "eee")))
        self.assertEqual(run_lengths(5).ends, ("", None, None, None, None, None))

    def test_numbers_that_are_none(self):
        for signs in NO_SIGNS:
            for call in (copier, shifted, run_lengths):
                check_refused(self, InvalidSigns, signs, call, signs)
            check_refused(self, InvalidSigns, signs, escaped, signs, None)
        one = 1
        check_refused(self, InvalidSigns, one, shifted, one)
        for mark in (-1, 3, 10 ** 30, *NO_INTEGERS):
            check_refused(self, InvalidSign, mark, escaped, 3, mark)


def plain_check(decoder, size, line):
    """What a decoder with checks writes, by the words of [153]."""
    read = []
    for at in range(0, len(line), size + 1):
        block = line[at:at + size]
        if len(line) < at + size + 1 or line[at + size] != sum(block) % decoder.signs:
            return None
        read += block
    return decoder.written(tuple(read))


class Checks(unittest.TestCase):
    def test_against_the_words(self):
        dice = random.Random(153)
        written = 0
        for _ in range(120):
            decoder, size = small_decoder(dice), dice.randint(1, 4)
            try:
                told = with_check(decoder, size)
            except TooMany:
                continue
            for _ in range(20):
                line = [dice.randrange(decoder.signs) for _ in range(dice.randint(0, 2) * size)]
                line = [sign for at in range(0, len(line), size)
                        for sign in (*line[at:at + size], sum(line[at:at + size]) % decoder.signs)]
                if line and dice.random() < 0.4:
                    line[dice.randrange(len(line))] = dice.randrange(decoder.signs)
                line = tuple(line[:dice.choice([len(line), len(line), max(0, len(line) - 1)])])
                self.assertEqual(told.written(line), plain_check(decoder, size, line))
                written += told.written(line) not in (None, "")
        self.assertGreater(written, 300)

    def test_states_in_the_order_in_which_they_are_met(self):
        dice = random.Random(154)
        for _ in range(60):
            decoder, size = small_decoder(dice), dice.randint(1, 4)
            places, told = [(0, 0, 0)], []
            for state, many, total in places:
                for sign in range(decoder.signs):
                    entry = decoder.steps[state][sign] if many < size else ((state, "") if sign == total else None)
                    goal = entry and ((state, 0, 0) if many == size else
                                      (entry[0], many + 1, (total + sign) % decoder.signs))
                    if goal and goal not in places:
                        places.append(goal)
                    told.append(goal and (places.index(goal), entry[1]))
            if len(places) > 40:
                check_raised(self, TooMany, {"count": len(places)}, with_check, decoder, size)
                continue
            checked = with_check(size=size, decoder=decoder)
            self.assertEqual(list(itertools.chain(*checked.steps)), told)
            self.assertEqual(checked.ends, tuple(decoder.ends[state] if many == 0 else None for state, many, _ in places))

    def test_just_40_and_more(self):
        # For one sign there are size + 1 tuples for each state, for three signs 3 * size + 1.
        def turning(states):
            return Decoder(1, [[((at + 1) % states, "")] for at in range(states)], [""] * states)

        self.assertEqual(with_check(turning(20), 1).states, 40)
        check_raised(self, TooMany, {"count": 42}, with_check, turning(21), 1)
        self.assertEqual([with_check(copier(5), 1).states, with_check(copier(5), 4).states], [6, 21])
        check_raised(self, TooMany, {"count": 70}, with_check, Decoder(3, [[(at, ""), ((at + 1) % 7, ""), (at, "")]
                                                                           for at in range(7)], [""] * 7), 3)
        self.assertEqual(with_check(Decoder(2, [[None, None], *[[(1, "a"), (2, "b")]] * 39], ["x"] * 40), 4).states, 1)

    def test_states_that_no_line_leads_to_and_entries_that_are_none(self):
        decoder = Decoder(2, [[(2, "a"), None], [(0, "b"), (0, "b")], [None, (0, "c")]], ["x", "y", None])
        self.assertEqual(with_check(decoder, 1), Decoder(
            2, [[(1, "a"), None], [(2, ""), None], [None, (3, "c")], [None, (0, "")]], ["x", None, None, None]))

    def test_what_is_refused(self):
        for decoder in NO_DECODERS:
            check_refused(self, InvalidDecoder, decoder, with_check, decoder, None)
            check_refused(self, InvalidDecoder, decoder, with_marker, decoder)
        for size in (0, 5, -1, 400, 10 ** 30, *NO_INTEGERS):
            check_refused(self, InvalidPeriod, size, with_check, PHASE, size)
            check_refused(self, InvalidPeriod, size, with_check, Decoder(5, [[(0, "")] * 5] * 40, [""] * 40), size)

    def test_one_turned_sign_does_no_harm(self):
        turned = 0
        for decoder, _ in cases(155, 12):
            kinds = [kind for kind in all_kinds(decoder.signs) if kind[0] == "turned"]
            for size in (1, 2):
                try:
                    told = with_check(decoder, size)
                except TooMany:
                    continue
                self.assertEqual(harm(told, kinds, 1), 0)
                if least_endless(decoder, kinds) is None:
                    self.assertLessEqual(harm(told, kinds, 2), harm(decoder, kinds, 2))
                turned += len(kinds)
        self.assertGreater(turned, 60)


class Markers(unittest.TestCase):
    def test_parts(self):
        for decoder, _ in cases(156, 20):
            if decoder.signs < 5:
                told = with_marker(decoder)
                self.assertEqual((told.signs, told.ends, told.states), (decoder.signs + 1, decoder.ends, decoder.states))
                self.assertEqual([row[:-1] for row in told.steps], list(decoder.steps))
                self.assertEqual([row[-1] for row in told.steps],
                                 [None if end is None else (0, end) for end in decoder.ends])

    def test_four_and_five_signs(self):
        self.assertEqual(with_marker(copier(4)), Decoder(5, [[(0, "a"), (0, "b"), (0, "c"), (0, "d"), (0, "")]], [""]))
        check_raised(self, InvalidSigns, {"given": 6}, with_marker, copier(5))
        check_raised(self, InvalidSigns, {"given": 6}, with_marker, with_marker(copier(4)))

    def test_lines_between_markers(self):
        for decoder, _ in cases(157, 12):
            if decoder.signs == 3:
                continue
            lines = list(itertools.product(range(decoder.signs), repeat=2))
            for one, other in itertools.product(lines, repeat=2):
                texts = [decoder.written(one), decoder.written(other)]
                self.assertEqual(with_marker(decoder).written((*one, decoder.signs, *other)),
                                 None if None in texts else "".join(texts))

    def test_harms(self):
        met = 0
        for decoder, kinds in cases(158, 12):
            told, least = with_marker(decoder), least_endless(decoder, kinds)
            self.assertEqual(least_endless(told, kinds), least)
            if least is not None or decoder.states > 3:
                continue
            row, other = [[harm(one, kinds, many) for many in range(4)] for one in (decoder, told)]
            for many in range(4):
                sums = [sum(row[part] for part in parts) for parts in itertools.product(range(many + 1), repeat=many)
                        if sum(parts) <= many]
                self.assertTrue(row[many] <= other[many] <= max(sums))
            met += other != row
        self.assertGreater(met, 0)


if __name__ == "__main__":
    unittest.main()
