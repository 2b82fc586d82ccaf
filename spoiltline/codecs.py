"""Decoders of usual kinds, made from what tells them."""

from spoiltline.checks import MOST_SIGNS, is_below, is_integer
from spoiltline.decoders import MOST_STATES, Decoder
from spoiltline.errors import InvalidPeriod, InvalidSign, InvalidSigns, TooMany
from spoiltline.passings import check_decoder, check_signs

LETTERS = "abcde"
MOST_SIZE = 4


def copier(signs):
    """Writes for each sign its letter."""
    check_signs(signs)
    return Decoder(signs, [[(0, LETTERS[sign]) for sign in range(signs)]], [""])


def escaped(signs, mark):
    """Writes for each sign its letter, but for the mark nothing, and for the sign behind a mark its letter twice."""
    check_signs(signs)
    if not is_below(mark, signs):
        raise InvalidSign(mark)
    plain = [(1, "") if sign == mark else (0, LETTERS[sign]) for sign in range(signs)]
    marked = [(0, LETTERS[sign] * 2) for sign in range(signs)]
    return Decoder(signs, [plain, marked], ["", None])


def shifted(signs):
    """The greatest sign changes between two modes; each other one writes its letter, in the second one with an x."""
    check_signs(signs)
    if signs < 2:
        raise InvalidSigns(signs)
    one = [(0, LETTERS[sign]) for sign in range(signs - 1)]
    other = [(1, LETTERS[sign] + "x") for sign in range(signs - 1)]
    return Decoder(signs, [[*one, (1, "")], [*other, (0, "")]], ["", ""])


def run_lengths(signs):
    """Reads two signs at a time: a sign, and how often its letter is written."""
    check_signs(signs)
    first = [(sign + 1, "") for sign in range(signs)]
    others = [[(0, LETTERS[sign] * (min(times, 2) + 1)) for times in range(signs)] for sign in range(signs)]
    return Decoder(signs, [first, *others], ["", *[None] * signs])


def with_check(decoder, size):
    """Reads blocks of so many signs as the decoder does, each followed by a check: the sum of its signs modulo their
    number."""
    check_decoder(decoder)
    if not is_integer(size) or not 1 <= size <= MOST_SIZE:
        raise InvalidPeriod(size)
    numbers = {(0, 0, 0): 0}
    rows = []
    queue = [(0, 0, 0)]
    at = 0
    while at < len(queue):
        row = [checked_entry(decoder, size, queue[at], sign) for sign in range(decoder.signs)]
        for entry in row:
            if entry is not None and entry[0] not in numbers:
                numbers[entry[0]] = len(numbers)
                queue.append(entry[0])
        rows.append(row)
        at += 1
    if len(numbers) > MOST_STATES:
        raise TooMany(len(numbers))
    steps = [numbered(row, numbers) for row in rows]
    ends = [decoder.ends[state] if many == 0 else None for state, many, _ in queue]
    return Decoder(decoder.signs, steps, ends)


def numbered(row, numbers):
    """The entries of a state, with the numbers of states in the place of what they are numbered for."""
    return [None if entry is None else (numbers[entry[0]], entry[1]) for entry in row]


def checked_entry(decoder, size, place, sign):
    """The entry for a sign at (state, number of signs read of the block, their sum): (place, word) or None."""
    state, many, total = place
    if many == size:
        return ((state, 0, 0), "") if sign == total else None
    entry = decoder.steps[state][sign]
    return None if entry is None else ((entry[0], many + 1, (total + sign) % decoder.signs), entry[1])


def with_marker(decoder):
    """Has one sign more, the marker, which ends what is read so far and begins anew."""
    check_decoder(decoder)
    if decoder.signs == MOST_SIGNS:
        raise InvalidSigns(decoder.signs + 1)
    steps = [[*row, None if end is None else (0, end)] for row, end in zip(decoder.steps, decoder.ends)]
    return Decoder(decoder.signs + 1, steps, decoder.ends)
