"""Roots [41], turns [42], lags [43] and those that stay [44]."""

import itertools
import unittest

from helpers import NO_COUNTS, NO_TEXTS, Foreign, check_refused
from spoiltline.errors import InvalidCount, InvalidText
from spoiltline.words import lag_behind, root, staying, turns

SHORT = ["".join(letters) for many in range(7) for letters in itertools.product("ab", repeat=many)]
SHORTER = [text for text in SHORT if len(text) < 5]
NO_LAGS = (None, 0, True, "ab", ("a", "b"), ["", ""], ["a", ""], ("a",), ("a", "", ""), (), ("A", ""), ("", None),
           (None, ""), ("", b"a"), (["a"], ""), Foreign(), {"": ""})


def lags_up_to(most):
    """All lags of the letters a and b, as (number, lag), ascending by their numbers."""
    told = [(len(text), (text, "")) for text in SHORT if len(text) <= most]
    told += [(-len(text), ("", text)) for text in SHORT if 0 < len(text) <= most]
    return sorted(told)


class Examples(unittest.TestCase):
    def test_words(self):
        self.assertEqual([root("abab"), root("aba"), root(""), turns("ab", "ba"), turns("abab", "abab"),
                          turns("ab", "ab"), turns("ab", "bb"), turns("abc", "bca")],
                         ["ab", "aba", "", [1], [0], [0], [], [1]])
        self.assertEqual([lag_behind(("b", ""), "ab", "ba"), lag_behind(("", ""), "ab", "ba"),
                          lag_behind(("", "x"), "xy", "")], [("b", ""), None, ("y", "")])
        self.assertEqual(staying("ab", "ba", 3), [("", "aba"), ("", "a"), ("b", ""), ("bab", "")])

    def test_error(self):
        check_refused(self, InvalidText, 5, turns, "ab", 5)


class Roots(unittest.TestCase):
    def test_the_shortest_text_of_which_it_is_rounds(self):
        for text in SHORT:
            plain = [text[:many] for many in range(len(text) + 1)
                     if text == text[:many] * (len(text) // many if many else 1) and (many or not text)]
            self.assertEqual(root(text), plain[0])

    def test_commuting_is_having_one_root(self):
        for one, other in itertools.product(SHORTER, repeat=2):
            if one and other:
                self.assertEqual(one + other == other + one, root(one) == root(other))

    def test_long_texts(self):
        self.assertEqual(root("a" * 400), "a")
        self.assertEqual(root("ab" * 199 + "aa"), "ab" * 199 + "aa")
        self.assertEqual(root(text="abc" * 133), "abc")

    def test_refused(self):
        for text in NO_TEXTS:
            check_refused(self, InvalidText, text, root, text)


class Turns(unittest.TestCase):
    def test_against_trying_each_number(self):
        for one, other in itertools.product(SHORTER, repeat=2):
            plain = [many for many in range(len(root(one))) if one[many:] + one[:many] == other]
            self.assertEqual(turns(one, other), plain if one or other else [0])
            self.assertLessEqual(len(turns(one, other)), 1)

    def test_each_call_tells_a_new_list(self):
        turns("ab", "ba").append(5)
        self.assertEqual(turns(other="ba", one="ab"), [1])
        turns("", "").append(5)
        self.assertEqual(turns("", ""), [0])

    def test_long_texts(self):
        self.assertEqual(turns("a" * 399 + "b", "b" + "a" * 399), [399])
        self.assertEqual(turns("ab" * 200, "ba" * 200), [1])
        self.assertEqual(turns("ab" * 200, "ab" * 199 + "bb"), [])

    def test_refused(self):
        for text in NO_TEXTS:
            check_refused(self, InvalidText, text, turns, text, None)
            check_refused(self, InvalidText, text, turns, "ab", text)


def plain_behind(lag, one, other):
    left, right = lag[0] + one, lag[1] + other
    while left and right and left[0] == right[0]:
        left, right = left[1:], right[1:]
    return None if left and right else (left, right)


class LagBehind(unittest.TestCase):
    def test_against_letter_by_letter(self):
        few = [text for text in SHORT if len(text) < 4]
        for (_, lag), one, other in itertools.product(lags_up_to(3), few, few):
            self.assertEqual(lag_behind(lag, one, other), plain_behind(lag, one, other))

    def test_either_side(self):
        self.assertEqual(lag_behind(("ab", ""), "c", "ab"), ("c", ""))
        self.assertEqual(lag_behind(("", "ab"), "abc", ""), ("c", ""))
        self.assertEqual(lag_behind(("", "ab"), "a", "c"), ("", "bc"))
        self.assertEqual(lag_behind(("", ""), "", ""), ("", ""))

    def test_parting_texts(self):
        self.assertIsNone(lag_behind(("a", ""), "", "b"))
        self.assertIsNone(lag_behind(("", "ab"), "aa", ""))
        self.assertIsNone(lag_behind(("a" * 399, ""), "", "a" * 398 + "b"))

    def test_refused(self):
        for lag in NO_LAGS:
            check_refused(self, InvalidText, lag, lag_behind, lag, None, None)
        for text in NO_TEXTS:
            check_refused(self, InvalidText, text, lag_behind, ("a", ""), text, None)
            check_refused(self, InvalidText, text, lag_behind, ("", "a"), "a", text)
        self.assertEqual(lag_behind(other="a", lag=("a", ""), one="b"), ("b", ""))


class Staying(unittest.TestCase):
    def test_against_trying_each_lag(self):
        told = lags_up_to(6)
        for one, other in itertools.product([text for text in SHORT if len(text) < 4], repeat=2):
            if one or other:
                plain = [lag for _, lag in told if lag_behind(lag, one, other) == lag]
                self.assertEqual(staying(one, other, 6), plain)

    def test_against_trying_each_number(self):
        for one, other in [("ab", "ba"), ("aab", "aba"), ("abab", "baba"), ("a", "a"), ("abc", "acb"), ("ab", "ab")]:
            for most in (0, 1, 7, 400):
                plain = []
                for number in range(-most, most + 1):
                    lag = ("", (one * 400)[:-number]) if number < 0 else ((other * 400)[:number], "")
                    plain += [lag] if lag_behind(lag, one, other) == lag else []
                self.assertEqual(staying(one, other, most), plain)

    def test_texts_of_unlike_lengths(self):
        self.assertEqual(staying("ab", "abab", 5), [])
        self.assertEqual(staying("", "a", 5), [])
        self.assertEqual(staying(most=5, other="", one="a"), [])

    def test_the_order_of_errors(self):
        for text in NO_TEXTS:
            check_refused(self, InvalidText, text, staying, text, None, None)
            check_refused(self, InvalidText, text, staying, "", text, None)
        one = ""
        check_refused(self, InvalidText, one, staying, one, "", -1)
        for most in NO_COUNTS:
            check_refused(self, InvalidCount, most, staying, "ab", "ba", most)
            check_refused(self, InvalidCount, most, staying, "ab", "bb", most)
            check_refused(self, InvalidCount, most, staying, "a", "", most)


if __name__ == "__main__":
    unittest.main()
