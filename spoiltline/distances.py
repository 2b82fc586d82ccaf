"""Levenshtein distances of texts, and how one text is turned into another.

Where i letters of the one text have been turned into j letters of the other, the place is on the
diagonal j - i, in the row i. A front tells, for each diagonal, the furthest row to which so many
changes lead; only the diagonals from which the ends of both texts can still be reached in time
are in it.
"""

from spoiltline.checks import is_count, is_text
from spoiltline.columns import changes_between
from spoiltline.errors import InvalidCount
from spoiltline.words import check_texts, length_of_root

# So far ahead of row 0 that no step from here comes to a row.
NOWHERE = -2
# Letters that are compared at once: long texts that are mostly alike would take long letter by letter.
BLOCK = 64
# Of texts with more letters, going by diagonals is tried first, up to one change for so many letters.
LONG = 1000
LETTERS = 50


def distance(one, other):
    """The least number of changes that turn the one text into the other."""
    check_texts(one, other)
    if longer(one, other) > LONG:
        few = fewest_changes(one, other, longer(one, other) // LETTERS)
        if few is not None:
            return few
    return changes_between(one, other)


def near(one, other, most):
    """The distance if it is at most this, else None."""
    check_texts(one, other)
    if not is_count(most):
        raise InvalidCount(most)
    return fewest_changes(one, other, most)


def round_price(one, other):
    """The least distance between the one text and a turn of the other."""
    check_texts(one, other)
    if length_of_root(one) < length_of_root(other):
        # The price is the same the other way round, and the shorter root has fewer turns.
        one, other = other, one
    least = changes_between(one, other)
    turns = length_of_root(other)
    turned = 1
    while turned < turns:
        changes = changes_between(one, other[turned:] + other[:turned])
        least = min(least, changes)
        # Turning by one letter more takes two changes at most: no turn before this one has less.
        turned += (changes - least + 2) // 2
    return least


def alignment(one, other):
    """An alignment with as few changes as the distance."""
    check_texts(one, other)
    fronts = fronts_of(one, other, longer(one, other))
    row, diagonal = len(one), len(other) - len(one)
    steps = []
    # No row that row_behind cut to the end of a text is met on the way back: from the neighbour that
    # it was cut from, the goal would have been reached with fewer changes.
    for front in reversed(fronts[:-1]):
        changed = row_behind(front, diagonal, one, other)
        steps.extend(keeps(one[changed:row]))
        if front.get(diagonal, NOWHERE) + 1 == changed:
            row = changed - 1
            steps.append(("swap", one[row], other[row + diagonal]))
        elif front.get(diagonal + 1, NOWHERE) + 1 == changed:
            row, diagonal = changed - 1, diagonal + 1
            steps.append(("drop", one[row]))
        else:
            row, diagonal = changed, diagonal - 1
            steps.append(("add", other[row + diagonal]))
    steps.extend(keeps(one[:row]))
    steps.reverse()
    return tuple(steps)


def is_alignment(one, other, value):
    """Whether the value is an alignment of the texts, with however many changes."""
    check_texts(one, other)
    if not isinstance(value, tuple):
        return False
    sides = [sides_of(step) for step in value]
    if None in sides:
        return False
    return "".join([left for left, _ in sides]) == one and "".join([right for _, right in sides]) == other


def longer(one, other):
    return max(len(one), len(other))


def keeps(letters):
    """The steps that keep these letters, the last one first."""
    return [("keep", letter) for letter in reversed(letters)]


def sides_of(step):
    """The letters of a step on the side of the one text and on that of the other; None for what is no step."""
    if not isinstance(step, tuple) or len(step) < 2 or not isinstance(step[0], str):
        return None
    name, *letters = step
    if not all([is_text(letter) and len(letter) == 1 for letter in letters]):
        return None
    if name == "swap" and len(letters) == 2 and letters[0] != letters[1]:
        return (letters[0], letters[1])
    if name not in ("keep", "drop", "add") or len(letters) != 1:
        return None
    left = "" if name == "add" else letters[0]
    right = "" if name == "drop" else letters[0]
    return (left, right)


def fewest_changes(one, other, most):
    """The distance of two texts if it is at most this, perhaps below 0, else None."""
    fronts = fronts_of(one, other, most)
    if fronts is None:
        return None
    return len(fronts) - 1


def fronts_of(one, other, most):
    """The fronts of 0, 1, .. changes up to the distance, or None if that is above this."""
    goal = len(other) - len(one)
    if abs(goal) > most:
        return None
    front = {0: alike(one, 0, other, 0)}
    fronts = [front]
    while front.get(goal) != len(one):
        changes = len(fronts)
        if changes > most:
            return None
        spare = most - changes
        lowest = max(-changes, -len(one), goal - spare)
        highest = min(changes, len(other), goal + spare)
        front = front_behind(front, one, other, lowest, highest)
        fronts.append(front)
    return fronts


def front_behind(front, one, other, lowest, highest):
    """The front of one change more, from the lowest to the highest diagonal."""
    behind = {}
    for diagonal in range(lowest, highest + 1):
        row = row_behind(front, diagonal, one, other)
        behind[diagonal] = row + alike(one, row, other, row + diagonal)
    return behind


def row_behind(front, diagonal, one, other):
    """The furthest row of the diagonal to which one change more leads, before letters are kept."""
    swapped = front.get(diagonal, NOWHERE) + 1
    dropped = front.get(diagonal + 1, NOWHERE) + 1
    added = front.get(diagonal - 1, NOWHERE)
    # A row beyond the end of a text stands for the last one of the diagonal, which takes no more changes:
    # the distances of neighbours differ by at most one.
    return min(max(swapped, dropped, added), len(one), len(other) - diagonal)


def alike(one, at, other, there):
    """How many letters of the one text from a place on are those of the other from its place on."""
    many = 0
    most = min(len(one) - at, len(other) - there)
    while many + BLOCK <= most and one[at + many:at + many + BLOCK] == other[there + many:there + many + BLOCK]:
        many += BLOCK
    while many < most and one[at + many] == other[there + many]:
        many += 1
    return many
