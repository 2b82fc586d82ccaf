"""Texts that turn into one another, and lags: what one of two texts has more than the other."""

from spoiltline.checks import is_count, is_text
from spoiltline.errors import InvalidCount, InvalidText


def root(text):
    """The shortest text of which the text is one or more rounds; the empty text for the empty one."""
    if not is_text(text):
        raise InvalidText(text)
    return text[:length_of_root(text)]


def turns(one, other):
    """The ascending list of the numbers of letters by which the one text, turned, is the other."""
    check_texts(one, other)
    return turns_between(one, other)


def lag_behind(lag, one, other):
    """The lag after one more is written on the left and other on the right, or None if there is none."""
    if not is_lag(lag):
        raise InvalidText(lag)
    check_texts(one, other)
    return lag_onward(lag, one, other)


def staying(one, other, most):
    """The list of the lags that stay when both are written, with numbers from - most to most."""
    check_texts(one, other)
    if one == "" and other == "":
        raise InvalidText(one)
    if not is_count(most):
        raise InvalidCount(most)
    if turns_between(one, other) == []:
        return []
    period = length_of_root(one)
    # The least number from - most on of which the turned text tells the remainder.
    least = (most - turns_between(one, other)[0]) % period - most
    return [lag_of_number(number, one, other) for number in range(least, most + 1, period)]


def check_texts(one, other):
    for text in (one, other):
        if not is_text(text):
            raise InvalidText(text)


def is_lag(value):
    if not isinstance(value, tuple) or len(value) != 2:
        return False
    return is_text(value[0]) and is_text(value[1]) and "" in value


def length_of_root(text):
    return (text + text).find(text, 1) if text else 0


def turns_between(one, other):
    if one == "" and other == "":
        return [0]
    if len(one) != len(other):
        return []
    # The first place is below the length of the root, and the only one that is.
    turn = (one + one).find(other)
    return [] if turn < 0 else [turn]


def lag_onward(lag, one, other):
    """As lag_behind, for a lag and texts that need not be asked."""
    left = lag[0] + one
    right = lag[1] + other
    if left.startswith(right):
        return (left[len(right):], "")
    if right.startswith(left):
        return ("", right[len(left):])
    return None


def lag_of_number(number, one, other):
    """The only lag with this number that may stay when both texts, which are not empty, are written."""
    if number < 0:
        return ("", around(one, 0, -number))
    return (around(other, 0, number), "")


def around(text, start, many):
    """So many letters of the text, written round after round, from a place in its first round on."""
    rounds = (start + many) // len(text) + 1
    return (text * rounds)[start:start + many]
