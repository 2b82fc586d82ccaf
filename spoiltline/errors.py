"""The errors that the package raises, each a direct subclass of CodecError."""


class CodecError(Exception):
    """What all errors of the package are."""


class InvalidCode(CodecError):
    """Refused: what should be a code."""

    def __init__(self, given):
        self.given = given


class InvalidCount(CodecError):
    """Refused: what should be a count."""

    def __init__(self, given):
        self.given = given


class InvalidDecoder(CodecError):
    """Refused: what should be a decoder."""

    def __init__(self, given):
        self.given = given


class InvalidEnds(CodecError):
    """Refused: what should be the ends of a decoder."""

    def __init__(self, given):
        self.given = given


class InvalidKinds(CodecError):
    """Refused: what should be kinds of errors."""

    def __init__(self, given):
        self.given = given


class InvalidKnot(CodecError):
    """Refused: what should be the index of a knot."""

    def __init__(self, given):
        self.given = given


class InvalidLine(CodecError):
    """Refused: what should be a line."""

    def __init__(self, given):
        self.given = given


class InvalidPair(CodecError):
    """Refused: what should be a useful pair."""

    def __init__(self, given):
        self.given = given


class InvalidPassing(CodecError):
    """Refused: what should be a passing."""

    def __init__(self, given):
        self.given = given


class InvalidPeriod(CodecError):
    """Refused: what should be the size of a block."""

    def __init__(self, given):
        self.given = given


class InvalidRow(CodecError):
    """Refused: what should be a row."""

    def __init__(self, given):
        self.given = given


class InvalidSign(CodecError):
    """Refused: what should be a sign."""

    def __init__(self, given):
        self.given = given


class InvalidSigns(CodecError):
    """Refused: what should be a number of signs."""

    def __init__(self, given):
        self.given = given


class InvalidSteps(CodecError):
    """Refused: what should be the steps of a decoder."""

    def __init__(self, given):
        self.given = given


class InvalidText(CodecError):
    """Refused: what should be a text."""

    def __init__(self, given):
        self.given = given


class TooMany(CodecError):
    """More was met than is gone through: count tells how many."""

    def __init__(self, count):
        self.count = count


class NotPinned(CodecError):
    """The decoder is not pinned for these kinds."""


class NotSteady(CodecError):
    """The decoder is not steady for these kinds."""


class NotReturning(CodecError):
    """The decoder does not come back."""


class OneWord(CodecError):
    """The decoder writes one word."""


class Endless(CodecError):
    """The harm is endless from so many errors on."""

    def __init__(self, errors):
        self.errors = errors


class NoLag(CodecError):
    """There is no such lag."""
