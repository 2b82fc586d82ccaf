"""Prefix codes: decoders that read them, and what they do when signs are lost."""

from spoiltline.checks import is_line, is_list, is_number_of_signs
from spoiltline.decoders import Decoder
from spoiltline.endless import least_endless
from spoiltline.errors import InvalidCode
from spoiltline.passings import check_signs
from spoiltline.steady import price
from spoiltline.subsets import line_together

LETTERS = "abcdefghijklmnopqrstuvwxyz"


def is_code(value, signs):
    """Whether the value is a list of 2 to 26 lines of these signs, none of which is a beginning of another one."""
    if not is_number_of_signs(signs) or not is_list(value) or not 2 <= len(value) <= len(LETTERS):
        return False
    if not all([is_line(line, signs) and line != () for line in value]):
        return False
    ahead = beginnings(value)
    return len({line: True for line in value}) == len(value) and not any([line in ahead for line in value])


def is_full(code, signs):
    """Whether every line is some lines of the code, one behind the other, and a beginning of one."""
    check_signs(signs)
    if not is_code(code, signs):
        raise InvalidCode(code)
    return leads_on(code, signs)


def reader(code, signs):
    """The decoder that writes a letter behind each line of a full code: a for the first one, b for the second one."""
    check_signs(signs)
    if not is_code(code, signs) or not leads_on(code, signs):
        raise InvalidCode(code)
    states = sorted(list(beginnings(code)), key=lambda line: (len(line), line))
    numbers = {line: state for state, line in enumerate(states)}
    letters = {line: LETTERS[at] for at, line in enumerate(code)}
    steps = [[entry_behind((*line, sign), numbers, letters) for sign in range(signs)] for line in states]
    return Decoder(signs, steps, [""] * len(states))


def is_safe(code, signs):
    """Whether lost signs never do harm without bound."""
    return least_endless(reader(code, signs), all_lost(signs)) is None


def code_price(code, signs):
    """What each lost sign costs in the long run, or None if the harm is endless."""
    told = price(reader(code, signs), all_lost(signs))
    return None if told is None else told[0]


def mends(code, signs):
    """A shortest line behind which the reader is in state 0 from each of its states, or None."""
    told = reader(code, signs)

    def is_first(members):
        return members == 1

    return line_together(told, list(range(told.states)), is_first)


def beginnings(lines):
    """The beginnings of the lines that are shorter than the line, as a dict of True."""
    return {line[:many]: True for line in lines for many in range(len(line))}


def leads_on(code, signs):
    """Whether each sign leads from each beginning of a line of the code to a beginning or to a whole line."""
    ahead = beginnings(code)
    known = {line: True for line in code}
    return all([(*line, sign) in ahead or (*line, sign) in known for line in ahead for sign in range(signs)])


def entry_behind(line, numbers, letters):
    """The entry that leads to this beginning, or behind this whole line of a code."""
    return (numbers[line], "") if line in numbers else (0, letters[line])


def all_lost(signs):
    return [("lost", sign) for sign in range(signs)]
