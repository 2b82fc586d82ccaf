"""Decoders whose harm is told ahead, for all numbers of errors, by a row."""

from spoiltline.checks import is_count, is_integer, is_list
from spoiltline.decoders import Decoder
from spoiltline.errors import InvalidCount, InvalidRow

MOST_FIRST = 8
MOST_NUMBER = 40
MOST_PERIOD = 4
MOST_GAIN = 12
# What one step may write.
MOST_WRITTEN = 3


def is_row(value):
    """Whether the value is a row (first, period, gain)."""
    if not isinstance(value, tuple) or len(value) != 3:
        return False
    first, period, gain = value
    if not is_list(first) or not 1 <= len(first) <= MOST_FIRST or not all([is_count(number) for number in first]):
        return False
    if first[0] != 0 or first[-1] > MOST_NUMBER or not is_rising(first):
        return False
    if not is_integer(period) or not 1 <= period <= min(MOST_PERIOD, len(first)) or not is_count(gain):
        return False
    return gain <= MOST_GAIN and first[-period] + gain >= first[-1]


def row_at(row, many):
    """The number that a row tells for a count."""
    check_row(row)
    if not is_count(many):
        raise InvalidCount(many)
    return number_at(row, many)


def built(row):
    """A decoder and kinds whose harm is, for each number of errors, what the row tells.

    The line sent begins with sign 0, goes on without a sign 1, and nothing is written for it. With an error it begins
    with sign 1; from there on each state takes either sign 1 alone, which is one error more, or sign 2 alone, and as
    many letters are written as the row tells for so many errors. As no state but the first one takes both 0 and 1, all
    other errors lead to lines that are rejected.
    """
    check_row(row)
    rises = rises_of(row)
    # State 0 begins, state 1 reads what was sent; starts tells the state behind each number of errors.
    starts = [2]
    for rise in rises:
        starts.append(starts[-1] + len(words_for(rise)))
    steps = [[(1, ""), None, None], [(1, ""), None, (1, "")]]
    ends = ["", ""]
    for many, rise in enumerate(rises):
        last = many == len(rises) - 1
        goal = starts[len(row[0]) - row[1]] if last else starts[many + 1]
        words = words_for(rise)
        for at, word in enumerate(words):
            behind = goal if at == len(words) - 1 else starts[many] + at + 1
            entry = (behind, word)
            steps.append([None, entry, None] if at == 0 else [None, None, entry])
            ends.append("" if at == 0 else None)
    steps[0][1] = steps[2][1]
    return (Decoder(3, steps, ends), [("turned", 0, 1)])


def is_subadditive(row):
    """Whether so many errors together never have a greater number than they have in two parts."""
    check_row(row)
    return is_subadditive_row(row)


def built_accepting(row):
    """As built, with a decoder that accepts every line, or None.

    It counts the signs 1 ahead of the first sign 2, and writes for each one by how much the row rises. Where that may
    be more than one word, all threes of it are owed: from the first sign 2 on each sign, whatever it is, writes three
    letters until nothing is owed any more. Errors do not change where that sign stands, so what is written for two
    counts never differs by more than their numbers do, which is, as the row is subadditive, no more than the number for
    their difference.
    """
    check_row(row)
    rises = rises_of(row)
    loop = len(row[0]) - row[1]
    if not is_subadditive_row(row) or max(rises[loop:]) > MOST_WRITTEN:
        return None
    # Behind the numbers of signs 1 come the states in which nothing is owed any more, three letters, six letters, ..
    counted = len(rises)
    owed = 0
    steps = []
    for many, rise in enumerate(rises):
        goal = many + 1 if many + 1 < counted else loop
        kept = 0 if many >= loop else rise - rise % MOST_WRITTEN
        paid = (counted, "") if owed == 0 else (counted + owed // MOST_WRITTEN - 1, "a" * MOST_WRITTEN)
        steps.append([(many, ""), (goal, "a" * (rise - kept)), paid])
        owed += kept
    steps.append([(counted, "")] * 3)
    for at in range(owed // MOST_WRITTEN - 1):
        steps.append([(counted + at, "a" * MOST_WRITTEN)] * 3)
    return (Decoder(3, steps, [""] * len(steps)), [("turned", 0, 1)])


def check_row(value):
    if not is_row(value):
        raise InvalidRow(value)


def is_rising(numbers):
    return all([one <= other for one, other in zip(numbers, numbers[1:])])


def number_at(row, many):
    first, period, gain = row
    if many < len(first):
        return first[many]
    rounds = (many - len(first)) // period + 1
    return first[many - rounds * period] + rounds * gain


def rises_of(row):
    """By how much the numbers up to that of the length of first rise; from there on the last ones, as many as the
    period, come again and again."""
    return [number_at(row, many + 1) - number_at(row, many) for many in range(len(row[0]))]


def words_for(rise):
    """The words that write so many letters, at least one word."""
    words = ["a" * min(MOST_WRITTEN, rise)]
    while len("".join(words)) < rise:
        words.append("a" * min(MOST_WRITTEN, rise - len("".join(words))))
    return words


def is_subadditive_row(row):
    # Numbers from the length of first on grow by the gain on both sides, so the others tell all.
    for one in range(len(row[0])):
        for other in range(one, len(row[0])):
            if number_at(row, one + other) > number_at(row, one) + number_at(row, other):
                return False
    return True
