"""What the points tell, worked out by plain trying: slow, and for small decoders alone."""

import itertools

from spoiltline.distances import distance
from spoiltline.words import lag_behind


def edges_from(decoder, kinds, pair):
    """All edges from a pair, by the words of [51]."""
    one, other = pair
    told = []
    for sign in range(decoder.signs):
        told.append((("same", sign), decoder.steps[one][sign], decoder.steps[other][sign]))
    for kind in set(kinds):
        if kind[0] == "lost":
            told.append((kind, decoder.steps[one][kind[1]], (other, "")))
        elif kind[0] == "put":
            told.append((kind, (one, ""), decoder.steps[other][kind[1]]))
        else:
            told.append((kind, decoder.steps[one][kind[1]], decoder.steps[other][kind[2]]))
    return sorted((step, (left[0], right[0]), left[1], right[1]) for step, left, right in told
                  if left is not None and right is not None)


def is_error(edge):
    return edge[0][0] != "same"


def are_words(decoder, pair):
    return decoder.ends[pair[0]] is not None and decoder.ends[pair[1]] is not None


def least_errors(starts, edges):
    """The least number of errors to each point, by going on until nothing changes."""
    least = {point: 0 for point in starts}
    changed = True
    while changed:
        changed = False
        for point in list(least):
            for goal, errors in edges.get(point, []):
                if least[point] + errors < least.get(goal, 10 ** 9):
                    least[goal] = least[point] + errors
                    changed = True
    return least


class PlainPairs:
    """Useful pairs, errors and knots, by the words of [52 to 54]."""

    def __init__(self, decoder, kinds):
        self.decoder = decoder
        every = list(itertools.product(range(decoder.states), repeat=2))
        edges = {pair: edges_from(decoder, kinds, pair) for pair in every}
        ahead = {pair: [(edge[1], int(is_error(edge))) for edge in edges[pair]] for pair in every}
        behind = {}
        for pair in every:
            for goal, errors in ahead[pair]:
                behind.setdefault(goal, []).append((pair, errors))
        self.to = least_errors([(0, 0)], ahead)
        self.out = least_errors([pair for pair in every if are_words(decoder, pair)], behind)
        self.useful = tuple(pair for pair in every if pair in self.to and pair in self.out)
        self.edges = {pair: [edge for edge in edges[pair] if edge[1] in self.useful] for pair in self.useful}
        self.knots = self.find_knots()

    def free(self, pair, inside):
        return [edge for edge in self.edges[pair] if not is_error(edge) and edge[1] in inside]

    def find_knots(self):
        met = {pair: {pair} for pair in self.useful}
        for _ in self.useful:
            for pair in self.useful:
                for edge in self.free(pair, met):
                    met[pair] |= met[edge[1]]
        sets = {tuple(other for other in self.useful if other in met[pair] and pair in met[other])
                for pair in self.useful}
        return tuple(sorted(knot for knot in sets
                            if any(edge[2] + edge[3] for pair in knot for edge in self.free(pair, knot))))

    def knot_of(self, pair):
        return next((index for index, knot in enumerate(self.knots) if pair in knot), None)

    def lag_with(self, index, number):
        """The lag of a knot whose number at its first pair is this one, as a dict of lags, or None."""
        knot = self.knots[index]
        text = "" if number == 0 else self.writing(knot, 3 if number > 0 else 2, abs(number))
        if text is None:
            return None
        lags = {knot[0]: (text, "") if number >= 0 else ("", text)}
        waiting = [knot[0]]
        for pair in waiting:
            for _, goal, left, right in self.free(pair, knot):
                lag = lag_behind(lags[pair], left, right)
                if lag is None or lags.get(goal, lag) != lag:
                    return None
                if goal not in lags:
                    lags[goal] = lag
                    waiting.append(goal)
        return lags

    def writing(self, knot, side, many):
        """So many letters that some free way within the knot from its first pair writes on a side, or None."""
        pair, text = knot[0], ""
        while len(text) < many:
            met, found = [pair], None
            for point in met:
                for edge in self.free(point, knot):
                    if edge[side] and found is None:
                        found = edge
                    if edge[1] not in met:
                        met.append(edge[1])
                if found:
                    break
            if found is None:
                return None
            pair, text = found[1], text + found[side]
        return text[:many]

    def numbers(self, index, most):
        return [number for number in range(-most, most + 1) if self.lag_with(index, number) is not None]


def plain_gaps(pairs, start, many, most_met=20000):
    """The gaps [82] from a start, by going along all ways; None if these are too many. pairs is a PlainPairs."""
    found, met = {}, {}
    if not pairs.useful:
        return []
    if start is None and pairs.knot_of((0, 0)) is not None:
        return [((0, 0), "", "", 0)]

    def keep(goal, left, right, errors):
        found[goal, left, right] = min(errors, found.get((goal, left, right), errors))

    def keep_end(pair, left, right, errors):
        if are_words(pairs.decoder, pair):
            keep(None, left + pairs.decoder.ends[pair[0]], right + pairs.decoder.ends[pair[1]], errors)

    waiting = [((0, 0), "", "", 0)]
    if start is not None:
        keep_end(start, "", "", 0)
        waiting = [(edge[1], edge[2], edge[3], int(is_error(edge))) for edge in pairs.edges[start]
                   if is_error(edge) or pairs.knot_of(edge[1]) != pairs.knot_of(start)]
    while waiting:
        pair, left, right, errors = waiting.pop()
        if errors > many or met.get((pair, left, right), many + 1) <= errors:
            continue
        met[pair, left, right] = errors
        if len(met) > most_met:
            return None
        if pairs.knot_of(pair) is not None:
            keep(pair, left, right, errors)
            continue
        keep_end(pair, left, right, errors)
        waiting += [(edge[1], left + edge[2], right + edge[3], errors + is_error(edge)) for edge in pairs.edges[pair]]
    told = [(*goal, errors) for goal, errors in found.items()]
    return sorted(told, key=lambda gap: (gap[0] is not None, gap[0] or (), gap[1:]))


def least_endless(pairs, most=30):
    """By [71], with lags tried with all numbers of at most so much."""
    bad = [index for index in range(len(pairs.knots)) if not pairs.numbers(index, most)]
    return min([pairs.to[pair] + pairs.out[pair] for index in bad for pair in pairs.knots[index]], default=None)


def formula(decoder, kinds, many, most=25, most_rows=60):
    """The harm by the formula [92], with all lags of at most such numbers; None if there are too many rows."""
    pairs = PlainPairs(decoder, kinds)
    lags = {(index, number): pairs.lag_with(index, number) for index in range(len(pairs.knots))
            for number in range(-most, most + 1)}
    gaps, prices = {}, {}

    def price(before, left, right, behind):
        texts = (before[0] + left + behind[1], before[1] + right + behind[0])
        if texts not in prices:
            prices[texts] = distance(*texts)
        return prices[texts]

    harm = 0
    waiting = [(None, 0, ((None, 0),))]
    met = set(waiting)
    while waiting:
        index, errors, row = waiting.pop()
        for start in [None] if index is None else pairs.knots[index]:
            ahead = [(("", "") if index is None else lags[index, number][start], total) for number, total in row]
            if start not in gaps:
                gaps[start] = plain_gaps(pairs, start, many)
            if gaps[start] is None:
                return None
            for goal, left, right, more in gaps[start]:
                if errors + more + (0 if goal is None else pairs.out[goal]) > many:
                    continue
                if goal is None:
                    harm = max(harm, min(total + price(lag, left, right, ("", "")) for lag, total in ahead))
                    continue
                knot, sums = pairs.knot_of(goal), []
                for number in range(-most, most + 1):
                    if lags[knot, number] is not None:
                        behind = lags[knot, number][goal]
                        sums.append((number, min(total + price(lag, left, right, behind) for lag, total in ahead)))
                if (knot, errors + more, tuple(sums)) not in met:
                    met.add((knot, errors + more, tuple(sums)))
                    waiting.append((knot, errors + more, tuple(sums)))
                    if len(met) > most_rows:
                        return None
    return harm
