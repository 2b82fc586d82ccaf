"""Distances of texts, a whole column of the plain table at once.

Beside the letters of one text stand the distances of what is ahead of them to all beginnings of a
pattern. Neighbours in such a column differ by at most one, so it is kept as two integers with a bit
for each letter of the pattern: up has those at which the distance grows, down those at which it falls.
"""


def changes_between(one, other):
    """The Levenshtein distance of two texts."""
    return spread(one, "", other, "")[0][0]


def spread(one, more, other, beyond):
    """Two lists of distances: of one to other with 0, 1, .. letters of beyond behind it, and of one with 0, 1, ..
    letters of more behind it to other."""
    pattern = other + beyond
    whole = (1 << len(pattern)) - 1
    places = places_of(pattern)
    up, down = whole, 0
    for letter in one:
        up, down, _, _ = next_column(up, down, places.get(letter, 0), whole)
    ahead = heights(up, down, len(one), len(other), len(pattern))
    height = ahead[0]
    aside = [height]
    for letter in more:
        up, down, raised, lowered = next_column(up, down, places.get(letter, 0), whole)
        height += bit_of(raised, len(other)) - bit_of(lowered, len(other))
        aside.append(height)
    return ahead, aside


def places_of(pattern):
    """For each letter of the pattern the bits of the places where it stands."""
    places = {}
    for at, letter in enumerate(pattern):
        places[letter] = places.get(letter, 0) | (1 << at)
    return places


def next_column(up, down, same, whole):
    """The column behind one more letter, which stands at the places same of the pattern, and for each
    height of the table, from 0 on, whether the distance is raised or lowered there by the letter."""
    level = (((same & up) + up) ^ up) | same | down
    raised = ((down | (whole & ~(level | up))) << 1) | 1
    lowered = (level & up) << 1
    return (lowered | ~(level | raised)) & whole, level & raised & whole, raised, lowered


def heights(up, down, lowest, start, end):
    """The distances of a column from the height start to the height end, both included; lowest stands at height 0."""
    below = (1 << start) - 1
    height = lowest + ones(up & below) - ones(down & below)
    told = [height]
    for at in range(start, end):
        height += bit_of(up, at) - bit_of(down, at)
        told.append(height)
    return told


def bit_of(bits, at):
    return (bits >> at) & 1


def ones(bits):
    """How many bits are set."""
    return f"{bits:b}".count("1")
