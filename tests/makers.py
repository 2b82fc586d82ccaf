"""More decoders, for what holds only of some: pinned ones, steady ones, codes and rows."""

import random

from helpers import all_kinds, late_decoder, random_text, round_decoder, small_decoder
from spoiltline.builders import is_row
from spoiltline.decoders import Decoder


def place_decoder(dice):
    """One of several letters, often one whose lines do not come back: most knots are places or bad."""
    signs, states, holes = dice.randint(2, 3), dice.randint(1, 5), dice.choice([0, 0.1, 0.4])
    words = [random_text(dice, "abc", 2) for _ in range(signs)]
    onward = dice.random() < 0.5
    steps = []
    for state in range(states):
        row = []
        for sign in range(signs):
            goal = dice.randrange(state, states) if onward else dice.randrange(states)
            word = words[sign] if dice.random() < 0.6 else random_text(dice, "abc", 2)
            row.append(None if dice.random() < holes else (goal, word))
        steps.append(row)
    return Decoder(signs, steps, [random_text(dice, "ab", 2) if dice.random() < 0.8 else None for _ in range(states)])


def few_kinds(dice, signs):
    kinds = all_kinds(signs)
    return dice.sample(kinds, min(len(kinds), dice.choice([1, 1, 1, 2, 3])))


def place_cases(seed, many):
    """The same (decoder, kinds) on each call, often pinned ones."""
    dice = random.Random(seed)
    told = []
    for _ in range(many):
        decoder = dice.choice([small_decoder, late_decoder, place_decoder, place_decoder])(dice)
        told.append((decoder, few_kinds(dice, decoder.signs)))
    return told


def one_word_decoder(dice):
    """One that writes a word round and round, and accepts every line; None where some entry is missing."""
    decoder = round_decoder(dice)
    if any(entry is None for row in decoder.steps for entry in row):
        return None
    return Decoder(decoder.signs, decoder.steps, [random_text(dice, "ab", 2) for _ in range(decoder.states)])


def turning_decoder(dice):
    """One whose signs exchange the states, in each of them behind by some letters, or None."""
    signs, states = dice.randint(1, 3), dice.randint(2, 4)
    goals = [dice.sample(range(states), states) for _ in range(signs)]
    behind = [random_text(dice, "xy", 2) for _ in range(states)]
    words = [random_text(dice, "xy", 3) for _ in range(signs)]
    steps = []
    for state in range(states):
        row = []
        for sign in range(signs):
            goal, text = goals[sign][state], behind[state] + words[sign]
            if not text.endswith(behind[goal]) or len(text) - len(behind[goal]) > 3:
                return None
            row.append((goal, text[:len(text) - len(behind[goal])]))
        steps.append(row)
    return Decoder(signs, steps, [random_text(dice, "ab", 1) for _ in range(states)])


def modes_decoder(dice):
    """One whose signs exchange the states; what they write depends on the state for some signs alone."""
    signs, states = dice.randint(1, 3), dice.randint(1, 3)
    goals = [dice.sample(range(states), states) for _ in range(signs)]
    letters, alike = dice.choice(["a", "ab", "xy"]), dice.random() < 0.5
    words = [[random_text(dice, letters, 2) for _ in range(states)] for _ in range(signs)]
    steps = [[(goals[sign][state], words[sign][0 if alike and dice.random() < 0.8 else state])
              for sign in range(signs)] for state in range(states)]
    return Decoder(signs, steps, [random_text(dice, "ab", 1) for _ in range(states)])


def classes_decoder(dice):
    """(decoder, kinds): blocks of states, which errors do not lead out of; blocks may reject."""
    blocks, size, signs = dice.randint(1, 3), dice.randint(1, 2), dice.randint(1, 3)
    quiet = [sign for sign in range(signs) if dice.random() < 0.5]
    goals = [[block if sign in quiet else dice.randrange(blocks) for sign in range(signs)] for block in range(blocks)]
    letters, alike = dice.choice(["a", "xy", "ab"]), dice.random()
    words = [random_text(dice, letters, 2) for _ in range(signs)]
    holes = [[sign not in quiet and dice.random() < 0.15 for sign in range(signs)] for _ in range(blocks)]
    steps = [[None if holes[block][sign] else
              (goals[block][sign] * size + dice.randrange(size),
               words[sign] if dice.random() < alike else random_text(dice, letters, 2)) for sign in range(signs)]
             for block in range(blocks) for _ in range(size)]
    accepting = [dice.random() < 0.7 for _ in range(blocks)]
    ends = [random_text(dice, "ab", 1) if accepting[block] else None for block in range(blocks) for _ in range(size)]
    kinds = [("lost", sign) for sign in quiet if dice.random() < 0.5]
    kinds += [("put", sign) for sign in quiet if dice.random() < 0.5]
    kinds += [("turned", one, other) for one in quiet for other in quiet if one != other and dice.random() < 0.3]
    return Decoder(signs, steps, ends), kinds


def full_code(dice, signs, most):
    """A full code of at most so many lines, in any order."""
    lines = [(sign,) for sign in range(signs)]
    while len(lines) + signs - 1 <= most and dice.random() < 0.8:
        line = lines.pop(dice.randrange(len(lines)))
        lines += [(*line, sign) for sign in range(signs)]
    dice.shuffle(lines)
    return lines


def steady_cases(seed, many):
    """The same (decoder, kinds) on each call, all of them steady."""
    dice = random.Random(seed)
    told = []
    while len(told) < many:
        make = dice.choice([one_word_decoder, turning_decoder, turning_decoder, modes_decoder, classes_decoder])
        decoder = make(dice)
        if isinstance(decoder, tuple):
            told.append(decoder)
        elif decoder is not None:
            told.append((decoder, few_kinds(dice, decoder.signs)))
    return told


def drawn_row(dice):
    """A row; about half of them have what a decoder that accepts every line can do."""
    while True:
        length, rise = dice.randint(1, 8), dice.choice([1, 2, 3])
        period = dice.randint(1, min(4, length))
        if dice.random() < 0.5:
            first = sorted([0, *[dice.randint(0, dice.choice([3, 12, 40])) for _ in range(length - 1)]])
            row = (first, period, dice.randint(0, 12))
        else:
            first = [0, dice.choice([1, 2, 3, 5, 9, 20, 40])]
            while len(first) < length:
                first.append(min(40, first[-1] + dice.randint(0, rise)))
            row = (first[:length], period, dice.randint(0, 3 * period))
        if is_row(row):
            return row
