"""Kinds [21], passings [22], the harm of one [23], of short ones [24], the cheapest one for two lines [25]."""

import itertools
import random
import unittest

from helpers import (CODE, HALF, LOST, NO_COUNTS, NO_DECODERS, NO_KINDS, NOTHING, PHASE, Foreign, chain,
                     check_refused, mixed, random_text, small_decoder, some_kinds)
from spoiltline.decoders import Decoder
from spoiltline.distances import distance
from spoiltline.errors import InvalidCount, InvalidDecoder, InvalidKinds, InvalidLine, InvalidPassing, InvalidSigns
from spoiltline.passings import (all_kinds, came, errors_in, harm_of, is_kind, is_passing, least_passing, plain_harm,
                                 sent)

NO_NUMBERS_OF_SIGNS = (0, 6, -1, True, False, "2", None, 2.0, (2,), [2], Foreign(), 10 ** 40)
PASSING = (("lost", 0), ("same", 1), ("turned", 0, 1))


def kinds_told(signs):
    """All kinds, by the words of the point."""
    told = range(signs)
    return ([("lost", a) for a in told] + [("put", b) for b in told]
            + [("turned", a, b) for a in told for b in told if a != b])


class Examples(unittest.TestCase):
    def test_passings(self):
        self.assertEqual([sent(PASSING), came(PASSING), errors_in(PASSING), harm_of(PHASE, PASSING),
                          is_kind(("put", 2), 2)], [(0, 1, 0), (1, 1), 2, 1, False])
        self.assertEqual([plain_harm(PHASE, [("lost", 0)], 1, 3), plain_harm(PHASE, [("lost", 0)], 2, 4), all_kinds(1)],
                         [2, 2, [("lost", 0), ("put", 0)]])
        self.assertEqual([errors_in(least_passing((0, 0, 1), (0, 1), [("lost", 0)])),
                          least_passing((0,), (1,), [("lost", 0)])], [1, None])

    def test_error(self):
        passing = (("lost", 2),)
        check_refused(self, InvalidPassing, passing, harm_of, PHASE, passing)


class Kinds(unittest.TestCase):
    def test_each_kind_for_each_number_of_signs(self):
        for signs, most in itertools.product(range(1, 6), repeat=2):
            for kind in kinds_told(most):
                self.assertIs(is_kind(kind, signs), max(kind[1:]) < signs)
                self.assertIs(is_passing((kind,), signs), max(kind[1:]) < signs)

    def wrong_kinds(self, signs):
        odd = [signs, signs + 1, -1, 10 ** 30, True, False, None, "0", "a", (0,), [0], 0.0, 1.0, b"0", Foreign()]
        for name in ("lost", "put"):
            yield from [(name, sign) for sign in odd]
            yield from [(name,), (name, 0, 0), [name, 0], (name, None, 0), {name: 0}, name, [(name, 0)]]
        for sign in odd:
            yield from [("turned", sign, 0), ("turned", 0, sign)]
        yield from [("turned", sign, sign) for sign in range(signs)]
        yield from [("turned", 0), ("turned",), ("turned", 0, 1, 0), ["turned", 0, 1], (("turned",), 0, 1)]
        yield from [(), [], None, True, 0, "lost", ("Lost", 0), ("", 0), (None, 0), (0, "lost"), (["lost"], 0), Foreign(),
                    ("los", 0), ("same ", 0), (b"lost", 0), ((), 0), ("lost0",), ("stay", 0), object(), {"lost"}]

    def test_what_is_no_kind(self):
        for signs in range(1, 6):
            for value in self.wrong_kinds(signs):
                self.assertIs(is_kind(value, signs), False, value)
                self.assertIs(is_passing((value,), signs), False, value)
            self.assertIs(is_kind(("same", 0), signs), False)

    def test_what_is_no_number_of_signs(self):
        for signs in NO_NUMBERS_OF_SIGNS:
            self.assertIs(is_kind(("lost", 0), signs), False)
            self.assertIs(is_passing((), signs), False)
            self.assertIs(is_passing((("same", 0),), signs), False)
            check_refused(self, InvalidSigns, signs, all_kinds, signs)

    def test_all_kinds(self):
        for signs in range(1, 6):
            told = all_kinds(signs)
            self.assertEqual(told, sorted(kinds_told(signs)))
            self.assertEqual(len(told), 2 * signs + signs * (signs - 1))
            self.assertIs(type(told), list)
            self.assertEqual({type(kind) for kind in told}, {tuple})
            told.clear()
            self.assertEqual(all_kinds(signs=signs), sorted(kinds_told(signs)))

    def test_by_name(self):
        self.assertIs(is_kind(signs=2, value=("turned", 0, 1)), True)
        self.assertIs(is_passing(signs=2, value=PASSING), True)


class Passings(unittest.TestCase):
    def test_each_step(self):
        for signs in range(1, 6):
            for step in [("same", sign) for sign in range(signs)]:
                self.assertIs(is_passing((step,), signs), True)
                self.assertEqual((sent((step,)), came((step,)), errors_in((step,))), (step[1:], step[1:], 0))
            for kind in kinds_told(signs):
                self.assertEqual(errors_in((kind,)), 1)
                self.assertEqual(sent((kind,)), () if kind[0] == "put" else (kind[1],))
                self.assertEqual(came((kind,)), () if kind[0] == "lost" else (kind[-1],))

    def test_lengths(self):
        for many in (0, 400):
            right = (("same", 0), ("put", 1)) * (many // 2)
            self.assertIs(is_passing(right, 2), True)
            self.assertIs(is_passing(list(right), 2), False)
            self.assertEqual((len(sent(right)), len(came(right)), errors_in(right)), (many // 2, many, many // 2))

    def test_one_wrong_step(self):
        wrong = [("same", 2), ("lost", 2), ("turned", 1, 1), ["same", 0], None, ("same", True), ("same", 0, 1), ("same",)]
        for at, step in itertools.product((0, 200, 399), wrong):
            steps = [("same", 1)] * 400
            steps[at] = step
            self.assertIs(is_passing(tuple(steps), 2), False)

    def test_what_is_no_passing(self):
        for value in (None, True, 0, "same", [], [("same", 0)], {}, Foreign(), ("same", 0), ("lost", 0), iter(()), (5,)):
            for call in (sent, came, errors_in):
                check_refused(self, InvalidPassing, value, call, value)
            self.assertIs(is_passing(value, 5), False)

    def test_signs_from_5_on(self):
        for step in (("same", 5), ("lost", 5), ("put", 5), ("turned", 4, 5)):
            value = (("same", 4), step)
            for call in (sent, came, errors_in):
                check_refused(self, InvalidPassing, value, call, value)
        self.assertEqual(sent(passing=(("turned", 4, 0),)), (4,))

    def test_kinds_of_values(self):
        self.assertEqual([type(call(PASSING)) for call in (sent, came, errors_in)], [tuple, tuple, int])


class Harm(unittest.TestCase):
    def test_against_the_two_lines(self):
        dice = random.Random(23)
        for _ in range(300):
            decoder = small_decoder(dice)
            steps = [("same", sign) for sign in range(decoder.signs)] * 3 + all_kinds(decoder.signs)
            passing = tuple(dice.choice(steps) for _ in range(dice.randint(0, 6)))
            left, right = decoder.written(sent(passing)), decoder.written(came(passing))
            plain = None if left is None or right is None else distance(left, right)
            self.assertEqual(harm_of(decoder, passing), plain)

    def test_rejected_lines(self):
        ends = Decoder(2, [[(0, "a"), (1, "b")], [None, (1, "")]], ["", None])
        self.assertEqual(harm_of(ends, (("same", 0), ("lost", 0))), 1)
        self.assertIsNone(harm_of(ends, (("same", 0), ("lost", 1))))
        self.assertIsNone(harm_of(ends, (("same", 0), ("put", 1))))
        self.assertIsNone(harm_of(ends, (("same", 1),)))
        self.assertIsNone(harm_of(NOTHING, ()))
        self.assertEqual(harm_of(decoder=CODE, passing=()), 0)

    def test_400_steps_all_wrong(self):
        decoder = Decoder(2, [[(0, "abc"), (0, "xyz")]], [""])
        self.assertEqual(harm_of(decoder, (("turned", 0, 1),) * 400), 1200)
        self.assertEqual(harm_of(decoder, (("lost", 0),) * 400), 1200)
        self.assertEqual(harm_of(decoder, (("same", 0), ("turned", 1, 0)) * 200), 600)

    def test_refused(self):
        passing, wrong = (), [("same", 0)]
        for decoder in NO_DECODERS:
            check_refused(self, InvalidDecoder, decoder, harm_of, decoder, passing)
            check_refused(self, InvalidDecoder, decoder, harm_of, decoder, wrong)
        for value in (wrong, None, (("same", 2),), (("turned", 1, 2),), (("lost", True),), Foreign()):
            check_refused(self, InvalidPassing, value, harm_of, PHASE, value)
        value = (("same", 1),)
        check_refused(self, InvalidPassing, value, harm_of, HALF, value)
        check_refused(self, InvalidPassing, value, harm_of, Decoder(1, [[None]], [None]), value)


def tried_harm(decoder, kinds, many, steps):
    """The greatest harm of all passings, one by one."""
    told = [("same", sign) for sign in range(decoder.signs)] + list(kinds)
    most = 0
    for length in range(steps + 1):
        for passing in itertools.product(told, repeat=length):
            if len([step for step in passing if step[0] != "same"]) <= many:
                most = max(most, harm_of(decoder, passing) or 0)
    return most


class PlainHarm(unittest.TestCase):
    def test_against_all_passings(self):
        dice = random.Random(24)
        for _ in range(150):
            decoder = small_decoder(dice)
            kinds = some_kinds(dice, decoder.signs, 0.3)
            steps = 3 if len(kinds) < 4 else 2
            for many in (0, 1, 2, 3):
                self.assertEqual(plain_harm(decoder, kinds, many, steps), tried_harm(decoder, kinds, many, steps))

    def test_no_errors_or_no_steps(self):
        for decoder in (PHASE, HALF, CODE, NOTHING):
            self.assertEqual(plain_harm(decoder, [("lost", 0)], 0, 5), 0)
            self.assertEqual(plain_harm(decoder, [("lost", 0)], 12, 0), 0)
            self.assertEqual(plain_harm(decoder, [], 3, 6), 0)
        self.assertEqual(plain_harm(NOTHING, LOST, 3, 4), 0)
        self.assertEqual(plain_harm(Decoder(1, [[None]], ["abc"]), [("lost", 0)], 2, 3), 0)

    def test_kinds_in_any_order_and_twice(self):
        dice = random.Random(25)
        for _ in range(40):
            decoder = small_decoder(dice)
            kinds = some_kinds(dice, decoder.signs, 0.3)
            told = mixed(dice, kinds)
            self.assertEqual(plain_harm(decoder, kinds, 2, 3), plain_harm(decoder, told, 2, 3))

    def test_the_most_steps_that_callers_pass(self):
        self.assertEqual(plain_harm(HALF, [("lost", 0)], 12, 12), 6)
        self.assertEqual(plain_harm(chain(3), [("lost", 0)], 12, 12), 0)
        self.assertEqual(plain_harm(Decoder(1, [[(0, "abc")]], [""]), [("put", 0)], steps=12, many=11), 33)

    def test_the_order_of_errors(self):
        count = -1
        for decoder in NO_DECODERS:
            check_refused(self, InvalidDecoder, decoder, plain_harm, decoder, None, count, count)
        for kinds in NO_KINDS:
            check_refused(self, InvalidKinds, kinds, plain_harm, PHASE, kinds, count, count)
            self.assertRaises(InvalidKinds, plain_harm, NOTHING, kinds, 0, 0)
        for count in NO_COUNTS:
            check_refused(self, InvalidCount, count, plain_harm, PHASE, [], count, None)
            check_refused(self, InvalidCount, count, plain_harm, PHASE, [], 0, count)

    def test_kinds_are_for_the_signs_of_the_decoder(self):
        kinds = [("lost", 1)]
        check_refused(self, InvalidKinds, kinds, plain_harm, HALF, kinds, 1, 1)
        self.assertEqual(plain_harm(PHASE, kinds, 1, 1), 1)


def fewest(one, other, kinds):
    """The fewest errors, from the plain table of the beginnings of both lines."""
    table = {(0, 0): 0}
    for at, there in itertools.product(range(len(one) + 1), range(len(other) + 1)):
        ways = [table[at, there]] if (at, there) in table else []
        if at and ("lost", one[at - 1]) in kinds:
            ways.append(table[at - 1, there] + 1)
        if there and ("put", other[there - 1]) in kinds:
            ways.append(table[at, there - 1] + 1)
        if at and there and one[at - 1] == other[there - 1]:
            ways.append(table[at - 1, there - 1])
        if at and there and ("turned", one[at - 1], other[there - 1]) in kinds:
            ways.append(table[at - 1, there - 1] + 1)
        table[at, there] = min(ways, default=10 ** 9)
    found = table[len(one), len(other)]
    return None if found >= 10 ** 9 else found


class LeastPassing(unittest.TestCase):
    def check(self, one, other, kinds):
        passing = least_passing(one, other, kinds)
        plain = fewest(one, other, kinds)
        self.assertEqual(passing is None, plain is None)
        if passing is not None:
            self.assertTrue(is_passing(passing, 5))
            self.assertEqual((sent(passing), came(passing), errors_in(passing)), (one, other, plain))
            self.assertTrue(all(step[0] == "same" or step in kinds for step in passing))

    def line(self, dice, signs, most):
        return tuple(dice.randrange(signs) for _ in range(dice.randint(0, most)))

    def test_against_the_plain_table(self):
        dice = random.Random(26)
        for _ in range(3000):
            signs = dice.randint(1, 5)
            kinds = some_kinds(dice, signs, dice.random())
            one, other = self.line(dice, signs, 8), self.line(dice, signs, 8)
            self.check(one, other, kinds)
            self.check(other, one, kinds)

    def test_no_kinds_and_all(self):
        dice = random.Random(27)
        for _ in range(100):
            one, other = self.line(dice, 2, 4), self.line(dice, 2, 4)
            self.check(one, other, [])
            self.check(one, one, [])
            self.check(one, other, all_kinds(5))

    def test_empty_lines(self):
        self.assertEqual(least_passing((), (), []), ())
        self.assertEqual(least_passing((), (1,), [("put", 1)]), (("put", 1),))
        self.assertEqual(least_passing((1,), (), [("lost", 1)]), (("lost", 1),))
        self.assertIsNone(least_passing((), (1,), [("lost", 1), ("put", 0)]))

    def test_400_signs(self):
        dice = random.Random(28)
        one = tuple(dice.randrange(5) for _ in range(400))
        other = tuple(dice.randrange(5) for _ in range(400))
        self.check(one, other, all_kinds(5))
        self.check(one, other, [("turned", 0, 1), ("lost", 4)])
        self.check(one, one[:170] + one[190:], [("lost", sign) for sign in range(5)])
        self.check((0, 1) * 200, (1, 0) * 200, [("lost", 0), ("put", 0)])

    def test_the_lines_of_a_longer_passing(self):
        line = (0, 1, 1) * 3000
        passing = least_passing(line, line[1:] + (0,), [("lost", 0), ("put", 0)])
        self.assertEqual((errors_in(passing), sent(passing)), (2, line))

    def test_kinds_twice_and_as_a_tuple(self):
        one, other = (0, 1, 2), (2, 0)
        for kinds in (all_kinds(3), tuple(all_kinds(3)), all_kinds(3) * 2, all_kinds(3)[::-1]):
            self.check(one, other, kinds)
            self.assertEqual(least_passing(one=one, other=other, kinds=kinds), least_passing(one, other, tuple(kinds)))

    def test_the_order_of_errors(self):
        for line in (None, [0], (5,), (True,), (0, -1), "0", Foreign(), (0, 1.0), ((0,),)):
            check_refused(self, InvalidLine, line, least_passing, line, None, None)
            check_refused(self, InvalidLine, line, least_passing, (4,), line, None)
        for kinds in (None, [("lost", 5)], ("lost", 0), [["lost", 0]], [("turned", 2, 2)], {}, [("same", 0)], 5):
            check_refused(self, InvalidKinds, kinds, least_passing, (0,), (0,), kinds)


class Columns(unittest.TestCase):
    def test_texts_with_more_behind_them(self):
        from spoiltline.columns import changes_between, spread
        dice = random.Random(29)
        for _ in range(500):
            one, more, other, beyond = [random_text(dice, "abc", 7) for _ in range(4)]
            ahead, aside = spread(one, more, other, beyond)
            self.assertEqual(ahead, [distance(one, other + beyond[:many]) for many in range(len(beyond) + 1)])
            self.assertEqual(aside, [distance(one + more[:many], other) for many in range(len(more) + 1)])
            self.assertEqual(changes_between(one, other), distance(one, other))


if __name__ == "__main__":
    unittest.main()
