"""A desk: a decoder and kinds that are kept, and lines of text that ask about them."""

from spoiltline.decoders import Decoder, text_of
from spoiltline.endless import least_endless
from spoiltline.errors import Endless, InvalidDecoder, InvalidText, NotPinned, NotSteady, TooMany
from spoiltline.harms import harm, worst
from spoiltline.passings import came, harm_of, is_free, is_kind, sent
from spoiltline.staircases import harm_row
from spoiltline.steady import price

# Counts in lines have at most two figures.
COUNTS = 100
# Lines that are always the same, and the first words of those that go on with a count.
ALONE = ("no kinds", "endless", "price", "show")
COUNTED = ("harm", "worst", "row")


class Desk:
    """Keeps a decoder and kinds, and does lines."""

    def __init__(self, decoder):
        if not isinstance(decoder, Decoder):
            raise InvalidDecoder(decoder)
        self.decoder = decoder
        self.kinds = []
        self.done = []

    def do(self, text):
        """Does the lines of a text, and returns the list of the lines that they tell."""
        if not isinstance(text, str):
            raise InvalidText(text)
        lines = [] if text == "" else text.split("\n")
        orders = [order_in(line, self.decoder.signs) for line in lines]
        for line, order in zip(lines, orders):
            if order is None:
                raise InvalidText(line)
        told = []
        for order in orders:
            told.extend(self.told_by(order))
        self.done.extend(lines)
        return told

    def script(self):
        """All lines that were done, with line feeds between them."""
        return "\n".join(self.done)

    def told_by(self, order):
        """The lines that an order tells."""
        word, value = order
        if word == "kind" or word == "no kinds":
            return [self.keep(value)]
        if word == "send":
            return lines_sent(self.decoder, value)
        if word == "harm":
            return [f"harm {value} errors {self.harm_told(value)}"]
        if word == "worst":
            return [self.worst_told(value)]
        if word == "row":
            return [self.row_told(value)]
        if word == "endless":
            least = least_endless(self.decoder, self.kinds)
            return ["never endless" if least is None else f"endless from {least}"]
        if word == "price":
            return [self.price_told()]
        return text_of(self.decoder).split("\n")

    def keep(self, kind):
        """Keeps a kind more, or none at all for None."""
        if kind is None:
            self.kinds = []
        elif kind not in self.kinds:
            self.kinds.append(kind)
        return f"kinds {len(self.kinds)}"

    def harm_told(self, many):
        try:
            told = harm(self.decoder, self.kinds, many)
        except TooMany:
            return "too many"
        return "endless" if told is None else str(told)

    def worst_told(self, many):
        try:
            passing = worst(self.decoder, self.kinds, many)
        except Endless:
            return "worst endless"
        except TooMany:
            return "worst too many"
        return " ".join(["send"] + [part_of(step) for step in passing])

    def row_told(self, many):
        try:
            told = harm_row(self.decoder, self.kinds, many)
        except NotPinned:
            return "not pinned"
        except TooMany:
            return "row too many"
        return " ".join(["row"] + [str(number) for number in told])

    def price_told(self):
        try:
            told = price(self.decoder, self.kinds)
        except NotSteady:
            return "not steady"
        except TooMany:
            return "price too many"
        return "price endless" if told is None else f"price {told[0]} / {told[1]}"


def order_in(line, signs):
    """What a line orders, as (word, value), or None if it is no line for this number of signs."""
    if line in ALONE:
        return (line, None)
    word, *parts = line.split(" ")
    if word == "send":
        passing = tuple([step_of(part, signs) for part in parts])
        return None if None in passing else ("send", passing)
    if word in COUNTED and len(parts) == 1:
        count = number_of(parts[0], COUNTS)
        return None if count is None else (word, count)
    kind = (word, *[number_of(part, signs) for part in parts])
    return ("kind", kind) if is_kind(kind, signs) else None


def number_of(part, limit):
    """The number below the limit that is written so, or None."""
    for number in range(limit):
        if part == str(number):
            return number
    return None


def step_of(part, signs):
    """The step of a passing that is written so, or None."""
    if part.startswith("-"):
        step = ("lost", number_of(part[1:], signs))
    elif part.startswith("+"):
        step = ("put", number_of(part[1:], signs))
    elif ">" in part:
        one, _, other = part.partition(">")
        step = ("turned", number_of(one, signs), number_of(other, signs))
    else:
        sign = number_of(part, signs)
        return None if sign is None else ("same", sign)
    return step if is_kind(step, signs) else None


def part_of(step):
    """How a step of a passing is written."""
    if is_free(step):
        return str(step[1])
    if step[0] == "turned":
        return f"{step[1]}>{step[2]}"
    return f"-{step[1]}" if step[0] == "lost" else f"+{step[1]}"


def lines_sent(decoder, passing):
    """What is told of a passing: the texts written on both sides, and the harm if there are both."""
    left = decoder.written(sent(passing))
    right = decoder.written(came(passing))
    told = [f"sent {shown(left)}", f"came {shown(right)}"]
    if left is not None and right is not None:
        told.append(f"harm {harm_of(decoder, passing)}")
    return told


def shown(text):
    if text is None:
        return "-"
    return text if text else '""'
