"""Distances of texts, a whole column of the plain table at once.

Beside the letters of one text stand the distances of what is ahead of them to all beginnings of a
pattern. Neighbours in such a column differ by at most one, so it is kept as two integers with a bit
for each letter of the pattern: up has those at which the distance grows, down those at which it falls.
"""


def changes_between(one, other):
    """The Levenshtein distance of two texts."""
    letters, pattern = (one, other) if len(one) < len(other) else (other, one)
    whole = (1 << len(pattern)) - 1
    up, down = column_behind(whole, 0, letters, places_of(pattern), whole)
    return len(letters) + ones(up) - ones(down)


def spread(one, more, other, beyond):
    """Two lists of distances: of one to other with 0, 1, .. letters of beyond behind it, and of one with 0, 1, ..
    letters of more behind it to other."""
    pattern = other + beyond
    whole = (1 << len(pattern)) - 1
    below = (1 << len(other)) - 1
    places = places_of(pattern)
    up, down = column_behind(whole, 0, one, places, whole)
    ahead = [len(one) + ones(up & below) - ones(down & below)]
    for at in range(len(other), len(pattern)):
        ahead.append(ahead[-1] + ((up >> at) & 1) - ((down >> at) & 1))
    aside = [ahead[0]]
    for at, letter in enumerate(more, start=len(one) + 1):
        up, down = column_behind(up, down, letter, places, whole)
        aside.append(at + ones(up & below) - ones(down & below))
    return ahead, aside


def places_of(pattern):
    """For each letter of the pattern the bits of the places where it stands."""
    places = {}
    bit = 1
    for letter in pattern:
        places[letter] = places.get(letter, 0) | bit
        bit = bit << 1
    return places


def column_behind(up, down, letters, places, whole):
    """The column behind some letters more; whole has the bits of all places."""
    for letter in letters:
        same = places.get(letter, 0)
        # Where the distance does not change from the place ahead in both texts; this carries along runs of up.
        level = (((same & up) + up) ^ up) | same | down
        raised = ((down | ~(level | up)) << 1) | 1
        lowered = (level & up) << 1
        up = (lowered | ~(level | raised)) & whole
        down = level & raised & whole
    return up, down


def ones(bits):
    """How many bits are set."""
    return f"{bits:b}".count("1")
