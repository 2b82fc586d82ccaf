"""What several tests use: how refusals are checked, and many decoders."""

import random

from spoiltline.decoders import Decoder
from spoiltline.errors import CodecError

# No integers, though some of them equal one.
NO_INTEGERS = (True, False, 1.0, 0.0, None, "1", (1,), [1], b"1", 1j, object())


class Foreign:
    """Equal to everything, as far as it is asked."""

    def __eq__(self, other):
        return True

    def __ne__(self, other):
        return False

    __hash__ = None


NO_DECODERS = (None, 0, True, "signs 1 states 1", (), [], {}, Decoder, Foreign(), object())


def check_refused(test, kind, given, call, *args, **named):
    """The call raises exactly this kind of error, and tells the very value."""
    with test.assertRaises(CodecError) as caught:
        call(*args, **named)
    test.assertIs(type(caught.exception), kind)
    test.assertIs(caught.exception.given, given)


def random_decoder(dice, most_states=6):
    signs = dice.randint(1, 5)
    states = dice.randint(1, most_states)
    holes = dice.random()
    steps = [[random_entry(dice, states, holes) for _ in range(signs)] for _ in range(states)]
    ends = [random_word(dice) if dice.random() < holes else None for _ in range(states)]
    return Decoder(signs, steps, ends)


def random_entry(dice, states, holes):
    if dice.random() < holes:
        return None
    return (dice.randrange(states), random_word(dice))


def random_word(dice):
    return "".join(dice.choice("abz") for _ in range(dice.randint(0, 3)))


def many_decoders(many, most_states=6):
    """The same decoders on each call."""
    dice = random.Random(2026)
    return [random_decoder(dice, most_states) for _ in range(many)]


def chain(states, signs=1):
    """A decoder whose sign 0 leads from each state to the one behind it, the last one of which alone accepts."""
    steps = [[(state + 1, "a")] + [None] * (signs - 1) for state in range(states - 1)]
    return Decoder(signs, [*steps, [None] * signs], [None] * (states - 1) + ["z"])
