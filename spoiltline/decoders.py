"""Decoders: what they write, the shortest line that they accept, and their texts."""

from spoiltline.checks import MOST_SIGNS, is_below, is_line, is_list, is_number_of_signs, is_word
from spoiltline.errors import InvalidDecoder, InvalidEnds, InvalidLine, InvalidSigns, InvalidSteps, InvalidText

MOST_STATES = 40
# No text of a decoder is longer: 17 characters for the first line, and 44 for each of 40 states
# with a line feed, five entries like "39:abc ", and "end :abc".
LONGEST_TEXT = 1777


class Decoder:
    """A transducer that reads signs, writes words, and accepts or rejects."""

    def __init__(self, signs, steps, ends):
        if not is_number_of_signs(signs):
            raise InvalidSigns(signs)
        if not are_steps(steps, signs):
            raise InvalidSteps(steps)
        if not are_ends(ends, len(steps)):
            raise InvalidEnds(ends)
        self.signs = signs
        self.states = len(steps)
        self.steps = tuple([tuple(row) for row in steps])
        self.ends = tuple(ends)

    def __eq__(self, other):
        return (isinstance(other, Decoder) and self.signs == other.signs
                and self.steps == other.steps and self.ends == other.ends)

    def written(self, line):
        """All that is written for a line, or None if it is rejected."""
        if not is_line(line, self.signs):
            raise InvalidLine(line)
        state = 0
        words = []
        for sign in line:
            entry = self.steps[state][sign]
            if entry is None:
                return None
            state, word = entry
            words.append(word)
        if self.ends[state] is None:
            return None
        words.append(self.ends[state])
        return "".join(words)

    def state_after(self, line):
        """The state behind a line, or None if there is none, whatever the ends are."""
        if not is_line(line, self.signs):
            raise InvalidLine(line)
        state = 0
        for sign in line:
            entry = self.steps[state][sign]
            if entry is None:
                return None
            state = entry[0]
        return state

    def trimmed(self):
        """For each state, whether a line that is accepted may come through it."""
        ahead = [[entry[0] for entry in row if entry is not None] for row in self.steps]
        met = states_met(ahead, [0])
        ending = [state for state in range(self.states) if self.ends[state] is not None]
        leading = states_met(turned_round(ahead), ending)
        return tuple([met[state] and leading[state] for state in range(self.states)])


def are_steps(value, signs):
    if not is_list(value) or not 1 <= len(value) <= MOST_STATES:
        return False
    return all([are_entries(row, signs, len(value)) for row in value])


def are_entries(value, signs, states):
    """Whether the value is the entries of one state."""
    if not is_list(value) or len(value) != signs:
        return False
    return all([entry is None or is_step(entry, states) for entry in value])


def is_step(value, states):
    if not isinstance(value, tuple) or len(value) != 2:
        return False
    return is_below(value[0], states) and is_word(value[1])


def are_ends(value, states):
    if not is_list(value) or len(value) != states:
        return False
    return all([end is None or is_word(end) for end in value])


def states_met(ahead, starts):
    """For each state, whether it is one of the starts or is met from them; ahead lists where each state leads."""
    met = [state in starts for state in range(len(ahead))]
    waiting = list(starts)
    while waiting:
        state = waiting.pop()
        for goal in ahead[state]:
            if not met[goal]:
                met[goal] = True
                waiting.append(goal)
    return met


def turned_round(ahead):
    """For each state, the states that lead to it."""
    behind = [[] for _ in ahead]
    for start, goals in enumerate(ahead):
        for goal in goals:
            behind[goal].append(start)
    return behind


def shortest_line(decoder):
    """A shortest line that is accepted, or None if none is."""
    if not isinstance(decoder, Decoder):
        raise InvalidDecoder(decoder)
    lines = {0: ()}
    newest = [0]
    while newest:
        for state in newest:
            if decoder.ends[state] is not None:
                return lines[state]
        newest = one_sign_on(decoder, lines, newest)
    return None


def one_sign_on(decoder, lines, newest):
    """The states that one more sign leads to for the first time; their shortest lines are added to lines."""
    found = []
    for state in newest:
        for sign, entry in enumerate(decoder.steps[state]):
            if entry is not None and entry[0] not in lines:
                lines[entry[0]] = (*lines[state], sign)
                found.append(entry[0])
    return found


def text_of(decoder):
    """The decoder as a string of lines."""
    if not isinstance(decoder, Decoder):
        raise InvalidDecoder(decoder)
    lines = [first_line(decoder.signs, decoder.states)]
    for row, end in zip(decoder.steps, decoder.ends):
        parts = [text_of_entry(entry) for entry in row]
        lines.append(" ".join([*parts, "end", text_of_end(end)]))
    return "\n".join(lines)


def first_line(signs, states):
    return f"signs {signs} states {states}"


def text_of_entry(entry):
    if entry is None:
        return "-"
    state, word = entry
    return f"{state}:{word}"


def text_of_end(end):
    if end is None:
        return "-"
    return f":{end}"


def read_decoder(text):
    """The decoder whose text this is."""
    # The longest one is asked first, so that a string of any length is refused at once.
    if not isinstance(text, str) or len(text) > LONGEST_TEXT:
        raise InvalidText(text)
    lines = text.split("\n")
    rows = [line.split(" ") for line in lines[1:]]
    signs = signs_told(lines[0], len(rows))
    numbers = {str(state): state for state in range(len(rows))}
    steps = [[entry_read(part, numbers) for part in row[:-2]] for row in rows]
    ends = [end_read(row[-1]) for row in rows]
    try:
        decoder = Decoder(signs, steps, ends)
    except (InvalidSigns, InvalidSteps, InvalidEnds):
        raise InvalidText(text) from None
    # The parts were read leniently: whatever is not written just so comes out as another text here.
    if text_of(decoder) != text:
        raise InvalidText(text)
    return decoder


def signs_told(line, states):
    """The number of signs that a first line tells, None if it is none for so many states."""
    for signs in range(1, MOST_SIGNS + 1):
        if line == first_line(signs, states):
            return signs
    return None


def entry_read(part, numbers):
    number, _, word = part.partition(":")
    if number not in numbers:
        return None
    return (numbers[number], word)


def end_read(part):
    if not part.startswith(":"):
        return None
    return part[1:]
