"""What the points on sections [101 to 104] tell, worked out by plain trying for small decoders."""

import itertools

import plain


def sort_of(pairs, index, most=25):
    """As lags [62] tells, by trying all numbers."""
    numbers = pairs.numbers(index, most)
    if not numbers:
        return "bad"
    return "place" if len(numbers) == 1 else "round"


def sorts(pairs):
    return [sort_of(pairs, index) for index in range(len(pairs.knots))]


def pinned(pairs):
    """By the words of [101]: from each edge that is an error and each one that writes, ways outside of places lead
    to each other and back, or from an edge that does both."""
    told = sorts(pairs)
    if "bad" in told:
        return False

    def is_in_place(pair):
        index = pairs.knot_of(pair)
        return index is not None and told[index] == "place"

    outside = [pair for pair in pairs.useful if not is_in_place(pair)]
    met = {pair: {pair} for pair in outside}
    for _ in outside:
        for pair in outside:
            for edge in pairs.edges[pair]:
                if edge[1] in met:
                    met[pair] |= met[edge[1]]
    edges = [(pair, edge) for pair in outside for edge in pairs.edges[pair] if edge[1] in met]
    for (one, wrong), (other, writing) in itertools.product(edges, repeat=2):
        if plain.is_error(wrong) and writing[2] + writing[3]:
            if other in met[wrong[1]] and one in met[writing[1]]:
                return False
    return True


def plain_sections(pairs, price, most=20, most_met=3000):
    """The list of [103] for a pinned decoder, by going along all rows of gaps; None if these are too many."""
    told = sorts(pairs)
    outside = [pair for pair in pairs.useful
               if pairs.knot_of(pair) is None or told[pairs.knot_of(pair)] != "place"]
    many = len(outside) + 1
    lags = {(index, number): pairs.lag_with(index, number) for index in range(len(pairs.knots))
            for number in range(-most, most + 1)}
    gaps = {}
    best = {}
    for start in [-1, *[index for index, sort in enumerate(told) if sort == "place"]]:
        row = ((0, 0),) if start == -1 else tuple((number, 0) for number in range(-most, most + 1)
                                                  if lags[start, number] is not None)
        waiting, met = [(start, 0, row)], set()
        while waiting:
            index, errors, row = waiting.pop()
            for first in [None] if index == -1 else pairs.knots[index]:
                if first not in gaps:
                    gaps[first] = plain.plain_gaps(pairs, first, many, most_met)
                if gaps[first] is None:
                    return None
                ahead = [(("", "") if index == -1 else lags[index, number][first], total) for number, total in row]
                for goal, left, right, more in gaps[first]:
                    if errors + more > many:
                        continue
                    if goal is None:
                        sums = [(0, min(total + price(lag, left, right, ("", "")) for lag, total in ahead))]
                        stop = -2
                    else:
                        stop = pairs.knot_of(goal)
                        sums = [(number, min(total + price(lag, left, right, lags[stop, number][goal])
                                             for lag, total in ahead))
                                for number in range(-most, most + 1) if lags[stop, number] is not None]
                    if stop == -2 or told[stop] == "place":
                        mark = (start, stop, errors + more)
                        best[mark] = max(sums[0][1], best.get(mark, 0))
                    elif (stop, errors + more, tuple(sums)) not in met:
                        met.add((stop, errors + more, tuple(sums)))
                        waiting.append((stop, errors + more, tuple(sums)))
                        if len(met) > 40:
                            return None
    rows, last = [], {}
    for start, goal, errors in sorted(best):
        value = best[start, goal, errors]
        if (start, goal) not in last or value > last[start, goal]:
            rows.append((start, goal, errors, value))
            last[start, goal] = value
    return rows


def harm_of_sections(told, many):
    """The greatest sum [104] of sections one behind the other with at most so many errors, by plain trying."""
    best = {(-1, 0): 0}
    changed = True
    while changed:
        changed = False
        for (stop, errors), total in list(best.items()):
            for start, goal, more, price in told:
                mark = (goal, errors + more)
                if start == stop and errors + more <= many and best.get(mark, -1) < total + price:
                    best[mark] = total + price
                    changed = True
    return max([total for (stop, _), total in best.items() if stop == -2], default=0)
