"""Passings that go along a course, with so many ways round in the knots that only their lags are a choice."""

from spoiltline.gaps import steps_of_gap
from spoiltline.lags import known_lags
from spoiltline.pairs import walked
from spoiltline.passings import harm_of


def passing_along(pairs, gaps, harm):
    """A passing through these gaps, which are a course, that does this harm: none on such ways does more."""
    legs = [leg(pairs, gap, behind) for gap, behind in zip(gaps, gaps[1:])]
    last = steps_along(pairs, gaps[-1])
    rounds = 0
    most = 3 * harm + letters_of(pairs, gaps, legs) + 3
    while rounds < most:
        passing = put_together(legs, last, rounds)
        if harm_of(pairs.decoder, passing) == harm:
            return passing
        rounds += rounds // 2 + 1
    return put_together(legs, last, most)


def leg(pairs, gap, behind):
    """The steps of a gap, of a way on to the first pair of the knot where it ends, the rounds there, and the steps
    from there to where the next gap starts."""
    first = pairs.knots[gap.met][0]
    return (steps_along(pairs, gap), pairs.way(gap.goal, first), known_lags(pairs, gap.met).rounds,
            pairs.way(first, behind.first))


def steps_along(pairs, gap):
    return steps_of_gap(pairs, gap.first, gap.goal, gap.left, gap.right)


def letters_of(pairs, gaps, legs):
    """The number of letters that the gaps, the ways to and from the first pairs and the rounds write."""
    texts = [text for gap in gaps for text in (gap.left, gap.right)]
    for gap, (_, onward, rounds, away) in zip(gaps, legs):
        first = pairs.knots[gap.met][0]
        texts.extend(walked(pairs, gap.goal, onward)[1:])
        texts.extend(walked(pairs, first, away)[1:])
        texts.extend([text for told in rounds for text in told[1:]])
    return sum([len(text) for text in texts])


def put_together(legs, last, rounds):
    """The steps along the legs, with so many rounds in each knot, each loop gone so many times in each round."""
    passing = []
    for steps, onward, told, away in legs:
        once = [step for loop in told for step in loop[0] * rounds]
        passing.extend([*steps, *onward])
        passing.extend(once * rounds)
        passing.extend(away)
    return tuple([*passing, *last])
