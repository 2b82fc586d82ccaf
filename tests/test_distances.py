"""Distances and alignments [31, 32], near [33], turns [34]."""

import itertools
import random
import unittest

from helpers import NO_INTEGERS, Foreign, check_refused
from spoiltline.distances import alignment, distance, is_alignment, near, round_price
from spoiltline.errors import InvalidCount, InvalidText

NO_TEXTS = (None, 0, 1, True, 1.0, b"ab", (), [], ("a",), ["a", "b"], {}, {"a"}, Foreign(), str, "A", "aB", "a b", " ",
            "1", "a1", "\n", "a\n", "{", "`", "-", "@", "[", "ab" * 200 + "A", "A" + "ab" * 200, "\t", "a~")
SHORT = ["".join(letters) for many in range(6) for letters in itertools.product("ab", repeat=many)]


def table(one, other):
    """The distance, from the plain table of all places."""
    row = list(range(len(other) + 1))
    for at, letter in enumerate(one, 1):
        behind = [at]
        for place, met in enumerate(other, 1):
            behind.append(min(row[place] + 1, behind[-1] + 1, row[place - 1] + (letter != met)))
        row = behind
    return row[-1]


def random_text(dice, letters, many):
    return "".join(dice.choice(letters) for _ in range(many))


def changed_text(dice, text, changes):
    for _ in range(changes):
        at = dice.randint(0, len(text))
        text = text[:at] + dice.choice(["", "a", "bc"]) + text[at + dice.randint(0, 2):]
    return text


def long_pairs():
    dice = random.Random(33)
    pairs = [(random_text(dice, letters, 400), random_text(dice, letters, most)) for letters in ("ab", "abcz")
             for most in (400, 333)]
    for letters in ("ab", "abcdefghij"):
        text = random_text(dice, letters, 390)
        pairs += [(text, changed_text(dice, text, 5)), (changed_text(dice, text, 9), text)]
    pairs += [("ab" * 200, "ba" * 200), ("abc" * 130, "abc" * 100), ("a" * 400, "b" * 400), ("a" * 400, "a" * 400),
              ("a" * 400, ""), ("", "z" * 400), ("a" * 64 + "b", "a" * 64 + "c"), ("a" * 200 + "b" * 200, "b" * 400)]
    return pairs


LONG = long_pairs()


class LongTexts(unittest.TestCase):
    def test_unlike_and_nearly_alike(self):
        dice = random.Random(40)
        text = random_text(dice, "abcdef", 20000)
        self.assertEqual(distance(text, text[:5000] + "z" + text[5002:]), 2)
        self.assertEqual(distance("a" * 1500, "b" * 1200), 1500)
        self.assertEqual(distance("ab" * 700, "ba" * 700), 2)


class Examples(unittest.TestCase):
    def test_distances(self):
        self.assertEqual([distance("xy", "yx"), distance("", "abc"), distance("kitten", "sitting"), near("xy", "yx", 1),
                          near("xy", "yx", 2)], [2, 3, 3, None, 2])

    def test_alignments(self):
        self.assertEqual([is_alignment("ab", "b", (("drop", "a"), ("keep", "b"))),
                          is_alignment("ab", "b", (("swap", "a", "b"), ("drop", "b")))], [True, True])

    def test_turns(self):
        self.assertEqual([len(alignment("ab", "ab")), is_alignment("ab", "ba", alignment("ab", "ba")),
                          round_price("abc", "bca"), round_price("aab", "ab"), round_price("", "xy")],
                         [2, True, 0, 1, 2])

    def test_error(self):
        text = "A"
        check_refused(self, InvalidText, text, distance, "ab", text)


class Distances(unittest.TestCase):
    def test_all_short_texts(self):
        for one, other in itertools.product(SHORT, repeat=2):
            self.assertEqual(distance(one, other), table(one, other), (one, other))

    def test_texts_of_more_letters(self):
        dice = random.Random(31)
        for _ in range(400):
            one = random_text(dice, "abcxyz", dice.randint(0, 12))
            other = random_text(dice, "abcxyz", dice.randint(0, 12))
            self.assertEqual(distance(one, other), table(one, other), (one, other))

    def test_long_texts(self):
        for one, other in LONG:
            self.assertEqual(distance(one, other), table(one, other))

    def test_longer_texts_than_callers_write(self):
        self.assertEqual(distance("ab" * 20000, "b" + "ab" * 20000 + "c"), 2)

    def test_by_name(self):
        self.assertEqual(distance(other="abc", one="b"), 2)
        self.assertEqual(near(most=2, other="abc", one="b"), 2)
        self.assertEqual(alignment(other="", one="b"), (("drop", "b"),))
        self.assertIs(is_alignment(value=(("add", "b"),), other="b", one=""), True)
        self.assertEqual(round_price(other="ba", one="ab"), 0)


class Refused(unittest.TestCase):
    def calls(self):
        return [lambda one, other: distance(one, other), lambda one, other: alignment(one, other),
                lambda one, other: is_alignment(one, other, ()), lambda one, other: is_alignment(one, other, None),
                lambda one, other: near(one, other, 3), lambda one, other: near(one, other, -1),
                lambda one, other: round_price(one, other)]

    def test_what_is_no_text(self):
        for call in self.calls():
            for text in NO_TEXTS:
                for fitting in ("", "ab"):
                    check_refused(self, InvalidText, text, call, text, fitting)
                    check_refused(self, InvalidText, text, call, fitting, text)

    def test_the_first_wrong_argument_first(self):
        one, other = "A", ["b"]
        for call in self.calls():
            check_refused(self, InvalidText, one, call, one, other)
            check_refused(self, InvalidText, other, call, other, one)
            check_refused(self, InvalidText, other, call, other, other)

    def test_what_is_no_count(self):
        for most in (*NO_INTEGERS, -1, -400, "", [], Foreign()):
            for one, other in (("ab", "ab"), ("", ""), ("", "abc")):
                check_refused(self, InvalidCount, most, near, one, other, most)

    def test_text_before_count(self):
        most = None
        check_refused(self, InvalidText, "B", near, "B", "a", most)
        check_refused(self, InvalidText, "B", near, "a", "B", most)
        check_refused(self, InvalidCount, most, near, "a", "b", most)

    def test_all_letters_are_letters(self):
        letters = "abcdefghijklmnopqrstuvwxyz"
        self.assertEqual(distance(letters, letters[::-1]), table(letters, letters[::-1]))
        for code in [9, 10, *range(32, 127)]:
            if chr(code) not in letters:
                text = "a" + chr(code)
                check_refused(self, InvalidText, text, distance, text, "")


class Near(unittest.TestCase):
    def check_near(self, one, other, least):
        for most in {0, 1, max(least - 1, 0), least, least + 1, 400}:
            self.assertEqual(near(one, other, most), least if least <= most else None, (one, other, most))

    def test_all_short_texts(self):
        for one, other in itertools.product(SHORT, repeat=2):
            least = table(one, other)
            for most in range(7):
                self.assertEqual(near(one, other, most), least if least <= most else None, (one, other, most))

    def test_long_texts(self):
        for one, other in LONG:
            self.check_near(one, other, table(one, other))

    def test_texts_of_unlike_lengths(self):
        dice = random.Random(32)
        for _ in range(300):
            one = random_text(dice, "abc", dice.randint(0, 20))
            other = changed_text(dice, one, dice.randint(0, 4))
            self.check_near(one, other, table(one, other))
            self.check_near(other, one, table(one, other))

    def test_empty_texts(self):
        self.assertEqual([near("", "", 0), near("", "a", 0), near("a", "", 1), near("", "", 400)], [0, None, 1, 0])


def sides(steps):
    """By the words of [32]: the texts of the letters of the steps."""
    left = "".join(step[1] for step in steps if step[0] in ("keep", "drop", "swap"))
    right = "".join(step[-1] for step in steps if step[0] in ("keep", "add", "swap"))
    return left, right


class Alignments(unittest.TestCase):
    def check_alignment(self, one, other):
        steps = alignment(one, other)
        self.assertIs(type(steps), tuple)
        for step in steps:
            self.assertIs(type(step), tuple)
            self.assertIn((step[0], len(step)), {("keep", 2), ("drop", 2), ("add", 2), ("swap", 3)})
            self.assertEqual({len(letter) for letter in step[1:]}, {1})
            self.assertEqual(len(set(step)), len(step) if step[0] == "swap" else 2)
        self.assertEqual(sides(steps), (one, other))
        self.assertEqual(sum(step[0] != "keep" for step in steps), table(one, other))
        self.assertIs(is_alignment(one, other, steps), True)
        self.assertEqual(steps, alignment(one, other))

    def test_all_short_texts(self):
        for one, other in itertools.product(SHORT, repeat=2):
            self.check_alignment(one, other)

    def test_texts_of_more_letters(self):
        dice = random.Random(34)
        for _ in range(300):
            one = random_text(dice, "abcde", dice.randint(0, 15))
            self.check_alignment(one, random_text(dice, "abcde", dice.randint(0, 15)))
            self.check_alignment(one, changed_text(dice, one, 3))

    def test_long_texts(self):
        for one, other in LONG:
            self.check_alignment(one, other)

    def test_empty_texts(self):
        self.assertEqual(alignment("", ""), ())
        self.assertEqual(alignment("ab", ""), (("drop", "a"), ("drop", "b")))
        self.assertEqual(alignment("", "ab"), (("add", "a"), ("add", "b")))


class Judging(unittest.TestCase):
    def test_more_changes_than_needed(self):
        for value in ((("keep", "a"), ("keep", "b")), (("drop", "a"), ("add", "a"), ("keep", "b")),
                      (("add", "a"), ("swap", "a", "b"), ("drop", "b")), (("drop", "a"), ("drop", "b"), ("add", "a"),
                      ("add", "b"))):
            self.assertIs(is_alignment("ab", "ab", value), True)
        self.assertIs(is_alignment("", "", ()), True)

    def test_the_empty_tuple_for_other_texts(self):
        for one, other in (("a", ""), ("", "a"), ("a", "a")):
            self.assertIs(is_alignment(one, other, ()), False)

    def test_letters_of_other_texts(self):
        value = (("keep", "a"), ("drop", "b"), ("add", "c"), ("swap", "d", "e"))
        self.assertIs(is_alignment("abd", "ace", value), True)
        for one, other in (("abd", "acd"), ("ab", "ace"), ("abd", "ac"), ("abdd", "ace"), ("abe", "ace"), ("acd", "abe"),
                           ("ace", "abd"), ("dba", "ace"), ("abd", "aec"), ("", "ace"), ("abd", "")):
            self.assertIs(is_alignment(one, other, value), False)

    def test_each_step_broken(self):
        broken = [("keep",), ("keep", "a", "a"), ("keep", "a", "b"), ("keep", ""), ("keep", "aa"), ("keep", "A"), ("keep", 1),
                  ("keep", None), ("keep", ("a",)), ("keep", b"a"), ["keep", "a"], "keep", "keepa", (), ("a",), ("a", "a"),
                  ("drop",), ("drop", "a", "a"), ("drop", ""), ("drop", "ab"), ("add",), ("add", "a", "a"), ("add", ""),
                  ("swap",), ("swap", "a"), ("swap", "a", "a"), ("swap", "a", "b", "c"), ("swap", "a", ""), ("swap", "", "b"),
                  ("swap", "a", "B"), ("swap", "ab", "c"), ("swap", "a", None), ("Keep", "a"), ("same", "a"), (None, "a"),
                  ("", "a"), (0, "a"), (("keep",), "a"), (["keep"], "a"), ({}, "a"), None, 0, True, {}, Foreign(),
                  (Foreign(), "a"), ("keep", Foreign()), ("swap", "a", Foreign()), {"keep": "a"}, ("keep", "a", None)]
        for step in broken:
            for one, other in itertools.product(("", "a", "aa", "ab"), ("", "a", "b", "aa")):
                self.assertIs(is_alignment(one, other, (step,)), False, step)
                self.assertIs(is_alignment(one + "z", other + "z", (step, ("keep", "z"))), False, step)
                self.assertIs(is_alignment("z" + one, "z" + other, (("keep", "z"), step)), False, step)

    def test_what_is_no_tuple(self):
        steps = (("keep", "a"),)
        self.assertIs(is_alignment("a", "a", steps), True)
        for value in (list(steps), [["keep", "a"]], (["keep", "a"],), None, 0, True, "keep", "a", {}, {("keep", "a")},
                      {("keep", "a"): 1}, iter(steps), Foreign(), str, ("keep", "a"), b""):
            self.assertIs(is_alignment("a", "a", value), False)
        for value in ([], "", {}, None, False, 0, b"", Foreign()):
            self.assertIs(is_alignment("", "", value), False)

    def test_nothing_handed_in_is_changed(self):
        value = (["keep", "a"], ("keep", ["a"]))
        is_alignment("a", "a", value)
        self.assertEqual(value, (["keep", "a"], ("keep", ["a"])))

    def test_each_change_of_an_alignment(self):
        steps = alignment("kitten", "sitting")
        for at, step in enumerate(steps):
            for letter in "ksz":
                changed = steps[:at] + ((*step[:-1], letter),) + steps[at + 1:]
                self.assertIs(is_alignment("kitten", "sitting", changed), changed == steps)
            self.assertIs(is_alignment("kitten", "sitting", steps[:at] + steps[at + 1:]), False)
            self.assertIs(is_alignment("kitten", "sitting", steps[:at] + (step, step) + steps[at + 1:]), False)


class RoundPrices(unittest.TestCase):
    def plainly(self, one, other):
        return min(table(one, other[at:] + other[:at]) for at in range(max(len(other), 1)))

    def test_all_short_texts(self):
        for one, other in itertools.product(SHORT, repeat=2):
            self.assertEqual(round_price(one, other), self.plainly(one, other), (one, other))

    def test_against_all_turns(self):
        dice = random.Random(35)
        for _ in range(300):
            one = random_text(dice, "abc", dice.randint(0, 12))
            other = random_text(dice, "abc", dice.randint(0, 12))
            self.assertEqual(round_price(one, other), self.plainly(one, other), (one, other))
            self.assertEqual(round_price(one, other), round_price(other, one))

    def test_turns_of_periodic_texts(self):
        for root, many, at in itertools.product(("a", "ab", "aab", "abcd"), (1, 2, 5), range(4)):
            other = root * many
            self.assertEqual(round_price(other[at:] + other[:at], other), 0)
            self.assertEqual(round_price(other + "z", other[at:] + other[:at]), 1)

    def test_the_last_turn(self):
        self.assertEqual(round_price("zabcdefgh", "abcdefghz"), 0)
        self.assertEqual(round_price("abcdefghz", "zabcdefgh"), 0)

    def test_a_hundred_letters(self):
        dice = random.Random(36)
        text = random_text(dice, "abc", 100)
        self.assertEqual(round_price(text, text[37:] + text[:37]), 0)
        self.assertEqual(round_price("a" * 100, "b" * 100), 100)
        self.assertEqual(round_price("a" * 100, "ab" * 50), 50)
        self.assertEqual(round_price(text[:60], ""), 60)
        other = random_text(dice, "abc", 30)
        self.assertEqual(round_price(text[:40], other), self.plainly(text[:40], other))

    def test_one_turn_far_below_the_others(self):
        dice = random.Random(38)
        for letters, many in (("abcdef", 60), ("ab", 60), ("abc", 45)):
            text = random_text(dice, letters, many)
            for at in (0, 1, many // 2, many - 1):
                other = changed_text(dice, text[at:] + text[:at], 3)
                self.assertEqual(round_price(text, other), self.plainly(text, other))
                self.assertEqual(round_price(other, text), self.plainly(text, other))

    def test_long_texts(self):
        dice = random.Random(39)
        text = random_text(dice, "abc", 1000)
        self.assertEqual(round_price(text, text[600:] + text[1:600]), 1)
        self.assertEqual(round_price("ab" * 700, "ba" * 500), 400)

    def test_the_fact_of_rounds(self):
        dice = random.Random(37)
        for _ in range(60):
            one, other = random_text(dice, "ab", dice.randint(0, 6)), random_text(dice, "ab", dice.randint(0, 6))
            least = round_price(one, other)
            for many in range(1, 6):
                rounds = distance(one * many, other * many)
                self.assertTrue(many * least <= rounds <= (many - 1) * least + len(one) + len(other))


if __name__ == "__main__":
    unittest.main()
