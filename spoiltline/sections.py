"""Sections: what errors do between places, where errors that go round must come through places."""

from spoiltline.courses import END, START, gaps_from
from spoiltline.errors import NotPinned
from spoiltline.gaps import GapSearch, errors_to_stops
from spoiltline.graphs import strong_sets
from spoiltline.lags import BAD, PLACE, known_lags
from spoiltline.pairs import Pairs, cost_of
from spoiltline.spans import Spans


def is_pinned(decoder, kinds):
    """Whether no knot is bad, and errors that go round and write come through places."""
    return are_pinned(Pairs(decoder, kinds))


def places(decoder, kinds):
    """The ascending list of the indices of the knots that are places."""
    return places_among(Pairs(decoder, kinds))


def sections(decoder, kinds):
    """The ascending list of (start, goal, errors, greatest price) of the sections of a pinned decoder."""
    return sections_of(Pairs(decoder, kinds))


def places_among(pairs):
    return [knot for knot in range(len(pairs.knots)) if known_lags(pairs, knot).told[0] == PLACE]


def are_pinned(pairs):
    if BAD in [known_lags(pairs, knot).told[0] for knot in range(len(pairs.knots))]:
        return False
    edges = edges_outside(pairs)
    for points in strong_sets({pair: [edge[1] for edge in edges[pair]] for pair in edges}):
        inside = {pair: True for pair in points}
        within = [edge for pair in points for edge in edges[pair] if edge[1] in inside]
        if any([cost_of(edge) == 1 for edge in within]) and any([edge[2] + edge[3] != "" for edge in within]):
            return False
    return True


def edges_outside(pairs):
    """For each useful pair that stands in no place its edges to such pairs."""
    pinned = {pair: True for knot in places_among(pairs) for pair in pairs.knots[knot]}
    return {pair: [edge for edge in pairs.edges(pair) if edge[1] not in pinned] for pair in pairs.useful
            if pair not in pinned}


def sections_of(pairs):
    if not are_pinned(pairs):
        raise NotPinned()
    if pairs.useful == ():
        return []
    # More errors than there are edges of a way on which all pairs outside of places are unlike change nothing.
    many = len(edges_outside(pairs)) + 1
    search = GapSearch(pairs, errors_to_stops(pairs))
    gaps = {knot: gaps_from(search, knot, many) for knot in range(len(pairs.knots))}
    gaps[START] = gaps_from(search, START, many)
    found = places_among(pairs)
    spans = Spans(pairs, gaps, [START, *found], [END, *found], many)
    told = []
    for start in [START, *found]:
        for goal, steps in spans.greatest(start).items():
            told.extend([(start, goal, errors, price) for errors, price in steps])
    return sorted(told)
