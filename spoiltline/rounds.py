"""Free ways round within a knot, from its first pair back to it, and how they are told apart.

A round is (passing, left, right): its steps and what it writes on the two sides.
"""

from spoiltline.passings import is_free


class FreeWays:
    """Shortest free ways within a knot, from its first pair to each of its pairs and from each one back."""

    def __init__(self, pairs, knot):
        points = pairs.knots[knot]
        inside = {pair: True for pair in points}
        self.first = points[0]
        self.free = {pair: [edge for edge in pairs.edges(pair) if is_free(edge[0]) and edge[1] in inside]
                     for pair in points}
        ahead = {pair: [(edge[1], (pair, edge)) for edge in self.free[pair]] for pair in points}
        behind = {pair: [] for pair in points}
        for pair in points:
            for edge in self.free[pair]:
                behind[edge[1]].append((pair, (edge[1], edge)))
        self.order, self.last, self.depth = shortest(self.first, ahead)
        _, self.onward, self.height = shortest(self.first, behind)

    def to(self, pair):
        """The edges of the way from the first pair to this one."""
        edges = []
        while self.last[pair] is not None:
            pair, edge = self.last[pair]
            edges.append(edge)
        edges.reverse()
        return edges

    def back(self, pair):
        """The edges of the way from this pair back to the first one."""
        edges = []
        while self.onward[pair] is not None:
            pair, edge = self.onward[pair]
            edges.append(edge)
        return edges

    def length(self, pair, edge):
        """The number of edges of the round through this edge from the pair."""
        return self.depth[pair] + 1 + self.height[edge[1]]

    def through(self, pair, edge):
        """The round through this edge from the pair."""
        return round_of([*self.to(pair), edge, *self.back(edge[1])])

    def by(self, pair):
        """The round to the pair and back."""
        return round_of([*self.to(pair), *self.back(pair)])

    def is_in_tree(self, pair, edge):
        """Whether the way to the pair where this edge ends comes along it."""
        return self.last[edge[1]] == (pair, edge)


def shortest(start, ahead):
    """All points in the order in which a search into the breadth meets them; for each one the mark of the edge
    that leads to it, None for the start; and its number of edges from the start.

    Here ahead tells for each point a list of (point, mark).
    """
    marks = {start: None}
    depths = {start: 0}
    order = [start]
    at = 0
    while at < len(order):
        point = order[at]
        at += 1
        for goal, mark in ahead[point]:
            if goal not in marks:
                marks[goal] = mark
                depths[goal] = depths[point] + 1
                order.append(goal)
    return order, marks, depths


def round_of(edges):
    passing = tuple([edge[0] for edge in edges])
    return (passing, "".join([edge[2] for edge in edges]), "".join([edge[3] for edge in edges]))


def kept_along(ways, start, onward):
    """What each pair has if the first pair has start, and a round that leads from start to something else, or None.

    Here onward(value, left, right) is what there is behind a way that writes these, None if there is nothing.
    Pairs behind an edge that leads to nothing have nothing told; the round is through the edge with the shortest one.
    """
    values = {ways.first: start}
    clash = None
    for pair in ways.order:
        if pair not in values:
            continue
        for edge in ways.free[pair]:
            value = onward(values[pair], edge[2], edge[3])
            if value is not None and ways.is_in_tree(pair, edge):
                values[edge[1]] = value
            elif value is None or values.get(edge[1], value) != value:
                if clash is None or ways.length(pair, edge) < ways.length(clash[0], clash[1]):
                    clash = (pair, edge)
    if clash is None:
        return values, None
    # Two ways to one pair that lead to unlike things: one of them, with the same way back, is such a round.
    told = ways.through(clash[0], clash[1])
    if onward(start, told[1], told[2]) == start:
        told = ways.by(clash[1][1])
    return values, told


def shortest_writing(ways):
    """The shortest round through an edge that writes a letter."""
    found = None
    for pair in ways.order:
        for edge in ways.free[pair]:
            if edge[2] + edge[3] != "" and (found is None or ways.length(pair, edge) < ways.length(found[0], found[1])):
                found = (pair, edge)
    return ways.through(found[0], found[1])
