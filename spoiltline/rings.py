"""Rings in graphs whose edges are tuples (start, goal, errors, gain), errors from 0 on.

Looked for is the greatest quotient of what the edges of a ring gain together and of their errors, as a tuple of two
integers without a common divisor above 1. Rings without errors gain nothing, or less.
"""

from math import gcd

from spoiltline.graphs import strong_sets


def greatest_quotient(edges):
    """The greatest quotient of a ring, (0, 1) if none is above 0."""
    best = (0, 1)
    ring = ring_above(edges, best)
    while ring is not None:
        best = lowest(sum([edge[3] for edge in ring]), sum([edge[2] for edge in ring]))
        ring = ring_above(edges, best)
    return best


def lowest(gain, errors):
    """The quotient of two counts, the second one not 0, in lowest terms."""
    divisor = gcd(gain, errors)
    return (gain // divisor, errors // divisor)


def is_above(one, other):
    """Whether a quotient is greater than another one."""
    return one[0] * other[1] > other[0] * one[1]


def surplus(edge, quotient):
    """By how much an edge gains more than its errors do by the quotient, times the lower number of that."""
    return edge[3] * quotient[1] - edge[2] * quotient[0]


def ring_above(edges, quotient):
    """The edges of a ring with a greater quotient, or None."""
    return climb(edges, quotient)[1]


def heights_by(edges, quotient):
    """For each point a height, so that no edge climbs less than its surplus, if no ring has a greater quotient."""
    return climb(edges, quotient)[0]


def climb(edges, quotient):
    """Heights that no edge raises any more, and None; or some heights and a ring that raises them for ever."""
    weights = {}
    for edge in edges:
        weights.setdefault(edge[0], []).append((surplus(edge, quotient), edge))
    heights = {point: 0 for edge in edges for point in edge[:2]}
    last = {}
    raised = list(weights)
    while raised:
        found = {}
        for point in raised:
            for weight, edge in weights.get(point, []):
                if heights[point] + weight > heights[edge[1]]:
                    heights[edge[1]] = heights[point] + weight
                    last[edge[1]] = edge
                    found[edge[1]] = True
        raised = list(found)
        ring = ring_among(last)
        if ring is not None:
            return heights, ring
    return heights, None


def ring_among(last):
    """The edges of a ring among those that last tells for the points to which they lead, one for each, or None."""
    passed = {}
    for start in last:
        point = start
        while point in last and point not in passed:
            passed[point] = start
            point = last[point][0]
        if point in last and passed[point] == start:
            ring = [last[point]]
            while ring[-1][0] != point:
                ring.append(last[ring[-1][0]])
            return ring
    return None


def tight_edges(edges, quotient):
    """The edges of the rings that have this quotient, the greatest one, and perhaps others that are on no ring."""
    heights = heights_by(edges, quotient)
    return [edge for edge in edges if heights[edge[0]] + surplus(edge, quotient) == heights[edge[1]]]


def common_errors(edges):
    """For each set of points that rings of these edges join, the greatest common divisor of the errors of its rings."""
    ahead = {point: [] for edge in edges for point in edge[:2]}
    for edge in edges:
        ahead[edge[0]].append(edge)
    divisors = []
    for points in strong_sets({point: goals_of(ahead[point]) for point in ahead}):
        inside = {point: True for point in points}
        within = [told for point in points for told in ahead[point] if told[1] in inside]
        if within != []:
            divisors.append(divisor_of(points[0], within))
    return divisors


def goals_of(edges):
    return [edge[1] for edge in edges]


def divisor_of(start, edges):
    """The greatest common divisor of the errors of all rings of edges by which all points lead to each other."""
    ahead = {}
    for edge in edges:
        ahead.setdefault(edge[0], []).append(edge)
    depths = {start: 0}
    stack = [start]
    while stack:
        point = stack.pop()
        for edge in ahead[point]:
            if edge[1] not in depths:
                depths[edge[1]] = depths[point] + edge[2]
                stack.append(edge[1])
    divisor = 0
    for edge in edges:
        divisor = gcd(divisor, abs(depths[edge[0]] + edge[2] - depths[edge[1]]))
    return divisor
