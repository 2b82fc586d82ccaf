"""What several tests use: how refusals are checked, and many decoders."""

import random

from spoiltline.decoders import Decoder
from spoiltline.endless import least_endless
from spoiltline.errors import CodecError
from spoiltline.passings import all_kinds

# No integers, though some of them equal one.
NO_INTEGERS = (True, False, 1.0, 0.0, None, "1", (1,), [1], b"1", 1j, object())
NO_COUNTS = (*NO_INTEGERS, -1, -10 ** 30)


class Foreign:
    """Equal to everything, as far as it is asked."""

    def __eq__(self, other):
        return True

    def __ne__(self, other):
        return False

    __hash__ = None


NO_DECODERS = (None, 0, True, "signs 1 states 1", (), [], {}, Decoder, Foreign(), object())
NO_TEXTS = (None, 0, True, 1.0, b"ab", (), [], ("a",), {}, Foreign(), "A", "a b", "1", "a\n", "-", "ab" * 200 + "A")
# No kinds for 2 signs.
NO_KINDS = (None, 0, True, "lost", {}, {("lost", 0): 1}, [("lost", 2)], (("put", -1),), [("lost", True)], [["lost", 0]],
            [("turned", 1, 1)], [("lost", 0), ("put", 0), ("turned", 0)], [("same", 0)], ("lost", 0), [None], [()],
            [("lost", 0), ("turned", 0, 1), ("turned", 0, 2)], [("lost", 1.0)], Foreign())


PHASE = Decoder(2, [[(1, "x"), (0, "y")], [(0, ""), (1, "y")]], ["", ""])
HALF = Decoder(1, [[(1, "")], [(0, "x")]], ["", ""])
CODE = Decoder(2, [[(0, "a"), (1, "")], [(0, "b"), (0, "c")]], ["", ""])
SHORT = Decoder(2, [[(1, "a"), (1, "b")], [None, None]], [None, "z"])
NOTHING = Decoder(2, [[(0, "a"), (1, "b")], [None, (1, "c")]], [None, None])
LOST = [("lost", 0), ("lost", 1)]
# Behind sign 1 it writes one letter late: pairs of the two modes are a place with the lag of that letter.
LATE = Decoder(2, [[(1, ""), (2, "")], [(1, "a"), (1, "b")], [(3, ""), (4, "")], [(3, "a"), (4, "a")],
                   [(3, "b"), (4, "b")]], ["", "", "", "a", "b"])
# Texts of either mode that are conjugate for each sign, but not for one sign behind the other.
UNLIKE = Decoder(3, [[(1, ""), (2, ""), None], [(1, "a"), (1, "b"), (1, "ab")], [(2, "a"), (2, "b"), (2, "ba")]],
                 ["", "", ""])
TURN = [("turned", 0, 1)]


def check_refused(test, kind, given, call, *args, **named):
    """The call raises exactly this kind of error, and tells the very value."""
    with test.assertRaises(CodecError) as caught:
        call(*args, **named)
    test.assertIs(type(caught.exception), kind)
    test.assertIs(caught.exception.given, given)


def check_raised(test, kind, attributes, call, *args, **named):
    """The call raises exactly this kind of error, with these attributes."""
    with test.assertRaises(CodecError) as caught:
        call(*args, **named)
    test.assertIs(type(caught.exception), kind)
    test.assertEqual(vars(caught.exception), attributes)


def random_decoder(dice, most_states=6):
    signs = dice.randint(1, 5)
    states = dice.randint(1, most_states)
    holes = dice.random()
    steps = [[random_entry(dice, states, holes) for _ in range(signs)] for _ in range(states)]
    ends = [random_word(dice) if dice.random() < holes else None for _ in range(states)]
    return Decoder(signs, steps, ends)


def random_entry(dice, states, holes):
    if dice.random() < holes:
        return None
    return (dice.randrange(states), random_word(dice))


def random_word(dice):
    return "".join(dice.choice("abz") for _ in range(dice.randint(0, 3)))


def many_decoders(many, most_states=6):
    """The same decoders on each call."""
    dice = random.Random(2026)
    return [random_decoder(dice, most_states) for _ in range(many)]


def chain(states, signs=1):
    """A decoder whose sign 0 leads from each state to the one behind it, the last one of which alone accepts."""
    steps = [[(state + 1, "a")] + [None] * (signs - 1) for state in range(states - 1)]
    return Decoder(signs, [*steps, [None] * signs], [None] * (states - 1) + ["z"])


def random_text(dice, letters, most):
    return "".join(dice.choice(letters) for _ in range(dice.randint(0, most)))


def small_decoder(dice):
    """One of few states and letters, often one in which each sign leads unlike states to unlike states."""
    signs, states = dice.randint(1, 3), dice.randint(1, 4)
    letters, most, holes = dice.choice(["a", "ab", "ab"]), dice.randint(1, 3), dice.choice([0, 0.1, 0.4])
    rows = [[dice.randrange(states) for _ in range(signs)] for _ in range(states)]
    if dice.random() < 0.5:
        columns = [dice.sample(range(states), states) for _ in range(signs)]
        rows = [[column[state] for column in columns] for state in range(states)]
    steps = [[None if dice.random() < holes else (goal, random_text(dice, letters, most)) for goal in row]
             for row in rows]
    ends = [random_text(dice, letters, 2) if dice.random() < 0.8 else None for _ in range(states)]
    return Decoder(signs, steps, ends)


def late_decoder(dice):
    """One that writes the words of the signs, in each state behind by some letters: most knots are places."""
    signs, states = dice.randint(1, 3), dice.randint(1, 5)
    words = [random_text(dice, "ab", 2) for _ in range(signs)]
    behind = ["", *[random_text(dice, "ab", 2) for _ in range(states - 1)]]
    steps = []
    for state in range(states):
        row = []
        for sign in range(signs):
            text = behind[state] + words[sign]
            goals = [goal for goal in range(states) if text.endswith(behind[goal]) and len(text) - len(behind[goal]) < 4]
            goal = dice.choice(goals) if goals and dice.random() < 0.9 else None
            row.append(None if goal is None else (goal, text[:len(text) - len(behind[goal])]))
        steps.append(row)
    if dice.random() < 0.3:
        steps[dice.randrange(states)][0] = (dice.randrange(states), random_text(dice, "ab", 3))
    ends = [None if dice.random() < 0.2 else dice.choice([text, ""]) for text in behind]
    return Decoder(signs, steps, ends)


def round_decoder(dice):
    """One that writes a word round and round, in each state from some letter on: most knots are round."""
    signs, states = dice.randint(1, 3), dice.randint(1, 5)
    word = dice.choice(["ab", "abc", "aab", "abcd", "aabb", "a", "abac"])
    lengths = [dice.randint(0, 3) for _ in range(signs)]
    places = [0, *[dice.randrange(len(word)) for _ in range(states - 1)]]
    heights = [dice.randint(0, 2) for _ in range(states)]
    steps = []
    for state in range(states):
        row = []
        for sign in range(signs):
            goals = [goal for goal in range(states) if (places[state] + lengths[sign] - places[goal]) % len(word) == 0
                     and 0 <= lengths[sign] + heights[goal] - heights[state] <= 3]
            goal = dice.choice(goals) if goals and dice.random() < 0.9 else None
            at = (places[state] + heights[state]) % len(word)
            row.append(None if goal is None else
                       (goal, (word * 9)[at:at + lengths[sign] + heights[goal] - heights[state]]))
        steps.append(row)
    ends = [None if dice.random() < 0.2 else random_text(dice, "ab", 2) for _ in range(states)]
    return Decoder(signs, steps, ends)


def some_kinds(dice, signs, share=0.4):
    return [kind for kind in all_kinds(signs) if dice.random() < share]


def cases(seed, many):
    """The same (decoder, kinds) on each call, of each sort as many."""
    dice = random.Random(seed)
    told = []
    for make in (small_decoder, late_decoder, round_decoder):
        for _ in range(many):
            decoder = make(dice)
            told.append((decoder, some_kinds(dice, decoder.signs)))
    return told


def bounded(seed, many, most):
    """(decoder, kinds, number of errors) of these cases, up to so many errors, where the harm is not endless."""
    for decoder, kinds in cases(seed, many):
        least = least_endless(decoder, kinds)
        for errors in range(most + 1):
            if least is None or errors < least:
                yield decoder, kinds, errors


def mixed(dice, kinds):
    """The same kinds in another order, with repeats, as a tuple."""
    told = [*kinds, *kinds[:2]]
    dice.shuffle(told)
    return tuple(told)
