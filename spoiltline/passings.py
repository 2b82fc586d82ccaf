"""Kinds of errors, passings of a line that is sent and comes, and the harm that they do."""

from spoiltline.checks import MOST_SIGNS, is_below, is_count, is_line, is_list, is_number_of_signs
from spoiltline.columns import changes_between
from spoiltline.decoders import Decoder
from spoiltline.distances import distance
from spoiltline.errors import InvalidCount, InvalidDecoder, InvalidKinds, InvalidLine, InvalidPassing, InvalidSigns

# How many signs a step of this name tells.
SIGNS_TOLD = {"lost": 1, "put": 1, "same": 1, "turned": 2}


def is_kind(value, signs):
    """Whether the value is a kind of errors for this number of signs."""
    return is_number_of_signs(signs) and is_step(value, signs) and not is_free(value)


def is_passing(value, signs):
    """Whether the value is a passing for this number of signs."""
    if not is_number_of_signs(signs) or not isinstance(value, tuple):
        return False
    return all([is_step(step, signs) for step in value])


def all_kinds(signs):
    """The ascending list of all kinds for this number of signs."""
    check_signs(signs)
    lost = [("lost", sign) for sign in range(signs)]
    put = [("put", sign) for sign in range(signs)]
    turned = [("turned", sign, other) for sign in range(signs) for other in range(signs) if sign != other]
    return lost + put + turned


def sent(passing):
    """The line that was sent."""
    check_passing(passing, MOST_SIGNS)
    return line_sent(passing)


def came(passing):
    """The line that came."""
    check_passing(passing, MOST_SIGNS)
    return line_that_came(passing)


def errors_in(passing):
    """The number of steps that are errors."""
    check_passing(passing, MOST_SIGNS)
    return len([step for step in passing if not is_free(step)])


def harm_of(decoder, passing):
    """The distance of what is written for the line sent and for the one that came, None unless both are accepted."""
    check_decoder(decoder)
    check_passing(passing, decoder.signs)
    left = decoder.written(line_sent(passing))
    right = decoder.written(line_that_came(passing))
    if left is None or right is None:
        return None
    return distance(left, right)


def plain_harm(decoder, kinds, many, steps):
    """The greatest harm of all passings with at most so many errors of these kinds and at most so many steps."""
    check_kinds(decoder, kinds)
    for count in (many, steps):
        if not is_count(count):
            raise InvalidCount(count)
    told = steps_with(decoder.signs, kinds)
    # Where both runs are and what they have written, with the fewest errors.
    runs = {(0, 0, "", ""): 0}
    most = 0
    for _ in range(steps):
        most = greatest_harm(decoder, runs, most)
        runs = one_step_on(decoder, runs, told, many)
    return greatest_harm(decoder, runs, most)


def least_passing(one, other, kinds):
    """A passing with the fewest errors, of these kinds, that sends the one line and brings the other, or None."""
    for line in (one, other):
        if not is_line(line, MOST_SIGNS):
            raise InvalidLine(line)
    if not are_kinds(kinds, MOST_SIGNS):
        raise InvalidKinds(kinds)
    known = {kind: True for kind in kinds}
    width = len(other) + 1
    goal = len(one) * width + len(other)
    # Places are numbers: those of the one line that are done times the width, and those of the other.
    behind = {}
    waiting = [(0, None)]
    while waiting and goal not in behind:
        stack = waiting
        waiting = []
        while stack:
            place, step = stack.pop()
            if place in behind:
                continue
            behind[place] = step
            free, wrong = steps_at(one, other, place // width, place % width, known)
            stack.extend([(place + moved(told, width), told) for told in free])
            waiting.extend([(place + moved(told, width), told) for told in wrong])
    if goal not in behind:
        return None
    return steps_back(behind, goal, width)


def is_step(value, signs):
    """Whether the value is a step of a passing."""
    if not isinstance(value, tuple) or len(value) < 2 or not isinstance(value[0], str):
        return False
    name, *told = value
    if name not in SIGNS_TOLD or len(told) != SIGNS_TOLD[name]:
        return False
    if not all([is_below(sign, signs) for sign in told]):
        return False
    return name != "turned" or told[0] != told[1]


def is_free(step):
    """Whether a step is no error."""
    return step[0] == "same"


def are_kinds(value, signs):
    """Whether the value is a list of kinds for this number of signs."""
    return is_list(value) and all([is_kind(kind, signs) for kind in value])


def check_signs(value):
    """Raises what is raised for a number of signs."""
    if not is_number_of_signs(value):
        raise InvalidSigns(value)


def check_decoder(value):
    if not isinstance(value, Decoder):
        raise InvalidDecoder(value)


def check_kinds(decoder, kinds):
    """Raises what is raised for a decoder and kinds for its signs."""
    check_decoder(decoder)
    if not are_kinds(kinds, decoder.signs):
        raise InvalidKinds(kinds)


def check_passing(value, signs):
    if not is_passing(value, signs):
        raise InvalidPassing(value)


def line_sent(passing):
    return tuple([step[1] for step in passing if step[0] != "put"])


def line_that_came(passing):
    return tuple([step[-1] for step in passing if step[0] != "lost"])


def steps_with(signs, kinds):
    """The ascending list of all steps that are free or of these kinds, each once."""
    known = {kind: True for kind in kinds}
    return sorted([*known, *[("same", sign) for sign in range(signs)]])


def edge_of(decoder, pair, step):
    """The pair of states to which a step leads from a pair, and what it writes on the left and on the right;
    None where an entry that it reads is None."""
    left = (pair[0], "") if step[0] == "put" else decoder.steps[pair[0]][step[1]]
    right = (pair[1], "") if step[0] == "lost" else decoder.steps[pair[1]][step[-1]]
    if left is None or right is None:
        return None
    return ((left[0], right[0]), left[1], right[1])


def one_step_on(decoder, runs, told, many):
    """The runs behind one more of the told steps, with at most so many errors."""
    onward = {}
    for (one, other, left, right), errors in runs.items():
        for step in told:
            edge = edge_of(decoder, (one, other), step)
            together = errors if is_free(step) else errors + 1
            if edge is None or together > many:
                continue
            pair, word, met = edge
            run = (pair[0], pair[1], left + word, right + met)
            onward[run] = min(together, onward.get(run, together))
    return onward


def greatest_harm(decoder, runs, least):
    """The greatest of this number and the distances of what is written where both runs may end."""
    most = least
    for one, other, left, right in runs:
        ends = (decoder.ends[one], decoder.ends[other])
        # No distance is greater than the longer text.
        if None not in ends and max(len(left + ends[0]), len(right + ends[1])) > most:
            most = max(most, changes_between(left + ends[0], right + ends[1]))
    return most


def steps_at(one, other, at, there, known):
    """The free steps and the errors that may follow where so many signs of both lines are done."""
    free = []
    wrong = []
    if at < len(one):
        wrong.append(("lost", one[at]))
    if there < len(other):
        wrong.append(("put", other[there]))
    if at < len(one) and there < len(other):
        if one[at] == other[there]:
            free.append(("same", one[at]))
        else:
            wrong.append(("turned", one[at], other[there]))
    return free, [kind for kind in wrong if kind in known]


def moved(step, width):
    """By how much a step leads on among the places."""
    if step[0] == "put":
        return 1
    if step[0] == "lost":
        return width
    return width + 1


def steps_back(behind, goal, width):
    """The steps that lead to the goal."""
    steps = []
    place = goal
    while behind[place] is not None:
        steps.append(behind[place])
        place -= moved(behind[place], width)
    steps.reverse()
    return tuple(steps)
