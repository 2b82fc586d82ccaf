"""Decoders: their parts and comparison [11], what they write [12], what is trimmed, shortest lines [13]."""

import itertools
import random
import unittest

from helpers import NO_DECODERS, NO_INTEGERS, Foreign, chain, check_refused, many_decoders
from spoiltline.decoders import Decoder, shortest_line
from spoiltline.errors import InvalidDecoder, InvalidEnds, InvalidLine, InvalidSigns, InvalidSteps

PHASE = Decoder(2, [[(1, "x"), (0, "y")], [(0, ""), (1, "y")]], ["", ""])
ENDS = Decoder(2, [[(1, "ab"), None], [(2, "c"), (0, "")], [None, (2, "d")]], [None, "z", None])
NO_WORDS = ("abcd", "A", "aB", "a b", " ", "-", ":", "a\n", "\n", "1", "z9", "{", "`", None, 1, True, b"a", ("a",), ["a"])


def lines_up_to(signs, most):
    return [line for many in range(most + 1) for line in itertools.product(range(signs), repeat=many)]


class Examples(unittest.TestCase):
    def test_phase(self):
        self.assertEqual([PHASE.written((0, 0, 1, 0)), PHASE.state_after((0, 0, 1, 0)), PHASE.states,
                          shortest_line(PHASE), PHASE.trimmed()], ["xyx", 1, 2, (), (True, True)])
        self.assertIsNone(Decoder(1, [[None]], [None]).written((0,)))

    def test_ends(self):
        self.assertEqual([ENDS.written((0,)), ENDS.written((0, 0)), ENDS.state_after((0, 0)), ENDS.trimmed(),
                          shortest_line(ENDS)], ["abz", None, 2, (True, True, False), (0,)])

    def test_errors(self):
        line, steps = (0, 2), [[(1, "a")]]
        check_refused(self, InvalidLine, line, PHASE.written, line)
        check_refused(self, InvalidSteps, steps, Decoder, 1, steps, [""])


class Parts(unittest.TestCase):
    def check_parts(self, decoder, signs, steps, ends):
        self.assertEqual((decoder.signs, decoder.states, decoder.steps, decoder.ends),
                         (signs, len(steps), steps, ends))
        self.assertEqual({type(decoder.signs), type(decoder.states)}, {int})
        self.assertEqual({type(decoder.steps), type(decoder.ends)}, {tuple})
        self.assertEqual({type(row) for row in decoder.steps}, {tuple})

    def test_lists_and_tuples_at_each_level(self):
        steps = (((1, "ab"), None), ((0, ""), (1, "xyz")))
        ends = (None, "q")
        for outer, first, second, last in itertools.product((list, tuple), repeat=4):
            decoder = Decoder(2, outer([first(steps[0]), second(steps[1])]), last(ends))
            self.check_parts(decoder, 2, steps, ends)
            self.assertEqual(decoder, Decoder(2, steps, ends))

    def test_by_name(self):
        decoder = Decoder(ends=["a"], steps=[[None]], signs=1)
        self.check_parts(decoder, 1, ((None,),), ("a",))
        self.assertEqual(decoder.written(line=()), "a")
        self.assertEqual(decoder.state_after(line=()), 0)
        self.assertEqual(shortest_line(decoder=decoder), ())

    def test_the_fewest_and_the_most(self):
        for signs, states in itertools.product((1, 5), (1, 40)):
            steps = ((((states - 1), "abc"),) * signs,) * states
            ends = ("xyz",) * states
            self.check_parts(Decoder(signs, steps, ends), signs, steps, ends)

    def test_lists_that_are_changed_afterwards(self):
        first, second, ends = [(1, "a")], [None], ["", None]
        steps = [first, second]
        decoder = Decoder(1, steps, ends)
        first[0], second[0], ends[1] = None, (0, "b"), "c"
        steps.append([None])
        ends.append(None)
        self.check_parts(decoder, 1, (((1, "a"),), (None,)), ("", None))

    def test_nothing_handed_in_is_changed(self):
        steps, ends = [[(1, "a")], [None]], ["", None]
        Decoder(1, steps, ends).trimmed()
        self.assertEqual((steps, ends), ([[(1, "a")], [None]], ["", None]))


class Refused(unittest.TestCase):
    def test_signs(self):
        for signs in (*NO_INTEGERS, 0, 6, -1, 10 ** 5000):
            check_refused(self, InvalidSigns, signs, Decoder, signs, [[None]], [None])

    def test_numbers_of_states(self):
        for states in (0, 41, 400):
            steps = [[None]] * states
            check_refused(self, InvalidSteps, steps, Decoder, 1, steps, [None] * states)
            steps = ((None,),) * states
            check_refused(self, InvalidSteps, steps, Decoder, 1, steps, (None,) * states)

    def test_what_is_no_list(self):
        for odd in (None, 1, True, "ab", {}, {0: [None]}, {1}, b"a", Foreign(), iter([[None]]), range(1)):
            check_refused(self, InvalidSteps, odd, Decoder, 1, odd, [None])
            steps = [odd]
            check_refused(self, InvalidSteps, steps, Decoder, 1, steps, [None])
            check_refused(self, InvalidEnds, odd, Decoder, 1, [[None]], odd)

    def test_numbers_of_entries(self):
        for signs in range(1, 6):
            for many in range(7):
                steps = [[None] * signs, [None] * many]
                if many != signs:
                    check_refused(self, InvalidSteps, steps, Decoder, signs, steps, [None, None])

    def refused_entry(self, entry):
        for at in (0, 1):
            row = [(0, "a"), None]
            row[at] = entry
            for rows in ([row], [[None, None], row], (tuple(row), (None, None))):
                check_refused(self, InvalidSteps, rows, Decoder, 2, rows, [None] * len(rows))

    def test_entries(self):
        for entry in (False, 0, "", "a", (), (0,), (0, "", ""), [0, ""], {0: ""}, (0, None), ("a", 0), Foreign()):
            self.refused_entry(entry)

    def test_states_of_entries(self):
        for state in (*NO_INTEGERS, 2, 3, 40, -1, 10 ** 30):
            self.refused_entry((state, "a"))

    def test_words_of_entries(self):
        for word in NO_WORDS:
            self.refused_entry((0, word))

    def test_a_state_that_is_not_there_at_the_last_place(self):
        steps = [[(39, "a")] * 5 for _ in range(40)]
        Decoder(5, steps, [""] * 40)
        steps[39][4] = (40, "a")
        check_refused(self, InvalidSteps, steps, Decoder, 5, steps, [""] * 40)

    def test_ends(self):
        for word in NO_WORDS:
            if word is not None:
                for ends in ([word, ""], ["", word], (None, word)):
                    check_refused(self, InvalidEnds, ends, Decoder, 1, [[None], [None]], ends)
        for ends in ([], [""], ["", "", ""], ()):
            check_refused(self, InvalidEnds, ends, Decoder, 1, [[None], [None]], ends)

    def test_a_list_within_itself(self):
        steps = []
        steps.append(steps)
        check_refused(self, InvalidSteps, steps, Decoder, 1, steps, [None])
        check_refused(self, InvalidEnds, steps, Decoder, 1, [[None]], steps)

    def test_which_error_comes_first(self):
        signs, steps, ends = 0, [[(1, "a")]], ["A"]
        check_refused(self, InvalidSigns, signs, Decoder, signs, steps, ends)
        check_refused(self, InvalidSigns, signs, Decoder, signs, [[None]], ends)
        check_refused(self, InvalidSigns, signs, Decoder, ends=[None], steps=steps, signs=signs)
        check_refused(self, InvalidSteps, steps, Decoder, 1, steps, ends)
        check_refused(self, InvalidSteps, steps, Decoder, 1, steps, [])
        check_refused(self, InvalidEnds, ends, Decoder, 1, [[None]], ends)

    def test_the_words_of_three_letters(self):
        for word in ("", "a", "zz", "xyz", "abc"):
            self.assertEqual(Decoder(1, [[(0, word)]], [word]).written((0,)), word + word)


class Comparison(unittest.TestCase):
    def test_equal(self):
        again = Decoder(2, (((1, "x"), (0, "y")), [(0, ""), (1, "y")]), ("", ""))
        self.assertTrue(PHASE == again and again == PHASE and PHASE == PHASE)
        self.assertFalse(PHASE != again or PHASE != PHASE)

    def test_unlike(self):
        unlike = [Decoder(1, [[None]], [None]), Decoder(2, [[None, None]], [None]),
                  Decoder(1, [[None], [None]], [None, None]), Decoder(1, [[None]], [""]), Decoder(1, [[None]], ["a"]),
                  Decoder(1, [[(0, "")]], [None]), Decoder(1, [[(0, "a")]], [None]),
                  Decoder(1, [[(0, "")], [None]], [None, None]), Decoder(1, [[(1, "")], [None]], [None, None])]
        for (at, one), (place, other) in itertools.product(enumerate(unlike), repeat=2):
            self.assertIs(one == other, at == place)
            self.assertIs(one != other, at != place)

    def test_foreign_values(self):
        parts = (PHASE.signs, PHASE.steps, PHASE.ends)
        for value in (*NO_DECODERS, parts, list(parts)):
            self.assertIs(PHASE == value, False)
            self.assertIs(PHASE != value, True)


def plainly_read(decoder, line):
    """What is written and the state behind the line, as the point tells it, with None where there is none."""
    state, text = 0, ""
    for sign in line:
        if decoder.steps[state][sign] is None:
            return None, None
        state, word = decoder.steps[state][sign]
        text += word
    return (None if decoder.ends[state] is None else text + decoder.ends[state]), state


class Reading(unittest.TestCase):
    def test_the_empty_line(self):
        self.assertEqual((PHASE.written(()), PHASE.state_after(())), ("", 0))
        self.assertEqual((ENDS.written(()), ENDS.state_after(())), (None, 0))
        self.assertEqual(Decoder(1, [[None]], ["abc"]).written(()), "abc")

    def test_rejected_early_and_late(self):
        self.assertEqual((ENDS.written((1,)), ENDS.state_after((1,))), (None, None))
        self.assertEqual((ENDS.written((1, 0, 0)), ENDS.state_after((1, 0, 0))), (None, None))
        self.assertEqual((ENDS.written((0, 0, 0)), ENDS.state_after((0, 0, 0))), (None, None))
        self.assertEqual((ENDS.written((0, 0, 1, 1)), ENDS.state_after((0, 0, 1, 1))), (None, 2))
        self.assertEqual((ENDS.written((0, 1, 0)), ENDS.state_after((0, 1, 0))), ("ababz", 1))

    def test_against_the_plain_way(self):
        for decoder in many_decoders(60):
            for line in lines_up_to(decoder.signs, 3):
                self.assertEqual((decoder.written(line), decoder.state_after(line)), plainly_read(decoder, line))

    def test_four_hundred_signs(self):
        dice = random.Random(4)
        for decoder in (PHASE, Decoder(5, [[(0, letter) for letter in "abcde"]], ["z"])):
            line = tuple(dice.randrange(decoder.signs) for _ in range(400))
            self.assertEqual((decoder.written(line), decoder.state_after(line)), plainly_read(decoder, line))
        self.assertEqual(PHASE.written((0,) * 400), "x" * 200)
        self.assertEqual(PHASE.written((1,) * 3000), "y" * 3000)

    def test_forty_states_in_a_chain(self):
        decoder = chain(40)
        for many in range(45):
            state = many if many < 40 else None
            self.assertEqual(decoder.state_after((0,) * many), state)
            self.assertEqual(decoder.written((0,) * many), "a" * 39 + "z" if many == 39 else None)

    def test_what_is_no_line(self):
        for line in (None, 0, "0", [], [0], {}, (2,), (-1,), (0, 2), (None,), ("0",), ((0,),), ([0],), (0, 10 ** 30),
                     range(1), iter((0,)), *[(1, odd) for odd in NO_INTEGERS], *[(odd,) for odd in NO_INTEGERS]):
            check_refused(self, InvalidLine, line, PHASE.written, line)
            check_refused(self, InvalidLine, line, PHASE.state_after, line)

    def test_a_wrong_sign_behind_a_rejected_one(self):
        for line in ((1, 2), (1, 1, True), (1, 0, 0, 1.0), (1,) * 399 + (2,)):
            check_refused(self, InvalidLine, line, ENDS.written, line)
            check_refused(self, InvalidLine, line, ENDS.state_after, line)
        line = (0, 0)
        self.assertIsNone(Decoder(1, [[None]], [None]).state_after(line))

    def test_the_greatest_sign(self):
        for signs in range(1, 6):
            decoder = Decoder(signs, [[(0, "a")] * signs], [""])
            self.assertEqual(decoder.written((signs - 1,)), "a")
            line = (signs,)
            check_refused(self, InvalidLine, line, decoder.written, line)


def plainly_trimmed(decoder):
    """By lines of fewer signs than there are states, which is enough."""
    met, leading = set(), set()
    reached, before = {0}, {state for state in range(decoder.states) if decoder.ends[state] is not None}
    for _ in range(decoder.states):
        met |= reached
        leading |= before
        reached = {entry[0] for state in reached for entry in decoder.steps[state] if entry}
        before = {state for state, row in enumerate(decoder.steps) if any(entry and entry[0] in before for entry in row)}
    return tuple(state in met and state in leading for state in range(decoder.states))


class Trimmed(unittest.TestCase):
    def test_against_the_plain_way(self):
        for decoder in many_decoders(500):
            self.assertEqual(decoder.trimmed(), plainly_trimmed(decoder))
            self.assertEqual({type(told) for told in decoder.trimmed()}, {bool})

    def test_it_is_a_tuple(self):
        self.assertIs(type(PHASE.trimmed()), tuple)

    def test_nothing_is_accepted(self):
        self.assertEqual(Decoder(1, [[(0, "a")]], [None]).trimmed(), (False,))
        self.assertEqual(Decoder(1, [[(0, "")], [(0, "")]], [None, ""]).trimmed(), (False, False))

    def test_states_that_nothing_leads_to(self):
        decoder = Decoder(1, [[(0, "")], [(0, "")], [(2, "")]], ["", "", ""])
        self.assertEqual(decoder.trimmed(), (True, False, False))

    def test_states_without_a_way_to_an_end(self):
        decoder = Decoder(2, [[(1, ""), (2, "")], [(1, ""), None], [None, None]], [None, None, "a"])
        self.assertEqual(decoder.trimmed(), (True, False, True))

    def test_the_empty_line_leads_to_state_0_and_to_an_end(self):
        self.assertEqual(Decoder(1, [[None]], [""]).trimmed(), (True,))
        self.assertEqual(Decoder(1, [[(1, "")], [None]], [None, ""]).trimmed(), (True, True))

    def test_forty_states_in_a_chain(self):
        self.assertEqual(chain(40).trimmed(), (True,) * 40)
        cut = Decoder(1, [[None] if state == 20 else [(min(state + 1, 39), "")] for state in range(40)],
                      ["" if state == 10 else None for state in range(40)])
        self.assertEqual(cut.trimmed(), (True,) * 11 + (False,) * 29)


class Shortest(unittest.TestCase):
    def test_against_all_lines(self):
        for decoder in many_decoders(300, 4):
            lengths = [len(line) for line in lines_up_to(decoder.signs, 3) if decoder.written(line) is not None]
            line = shortest_line(decoder)
            if line is None:
                self.assertEqual(lengths, [])
                self.assertFalse(any(decoder.trimmed()))
            else:
                self.assertIs(type(line), tuple)
                self.assertIsNotNone(decoder.written(line))
                self.assertEqual(len(line), min(lengths))

    def test_the_same_on_every_call(self):
        for decoder in many_decoders(100):
            again = Decoder(decoder.signs, [list(row) for row in decoder.steps], list(decoder.ends))
            self.assertEqual(shortest_line(decoder), shortest_line(again))

    def test_forty_states_in_a_chain(self):
        self.assertEqual(shortest_line(chain(40)), (0,) * 39)
        self.assertEqual(shortest_line(chain(40, 5)), (0,) * 39)

    def test_a_short_cut_by_the_last_sign(self):
        decoder = Decoder(3, [[(1, ""), None, (3, "")], [(2, ""), None, None], [(3, ""), None, None],
                              [None, (4, ""), None], [None] * 3], [None, None, None, None, "a"])
        self.assertEqual(shortest_line(decoder), (2, 1))

    def test_nothing_is_accepted(self):
        self.assertIsNone(shortest_line(Decoder(1, [[(0, "a")]], [None])))
        self.assertIsNone(shortest_line(Decoder(1, [[(0, "a")], [None]], [None, "b"])))

    def test_what_is_no_decoder(self):
        for value in NO_DECODERS:
            check_refused(self, InvalidDecoder, value, shortest_line, value)


if __name__ == "__main__":
    unittest.main()
