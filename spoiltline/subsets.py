"""Lines that lead several states together: sets of states are integers with a bit for each state."""

from spoiltline.errors import TooMany

MOST_SETS = 20000


def line_together(decoder, states, is_goal):
    """A shortest line that leads these states, by entries to these states alone, to a set of them that is a goal;
    None if there is none."""
    if not can_all_meet(decoder, states):
        return None
    start = sum([1 << state for state in states])
    if is_goal(start):
        return ()
    bits = {state: bits_behind(decoder, state, start) for state in states}
    behind = {start: None}
    queue = [start]
    at = 0
    while at < len(queue):
        for sign in range(decoder.signs):
            goal = set_behind(bits, queue[at], sign)
            if goal is not None and goal not in behind:
                behind[goal] = (queue[at], sign)
                queue.append(goal)
                if is_goal(goal):
                    return line_to(behind, goal)
        if len(behind) > MOST_SETS:
            raise TooMany(len(behind))
        at += 1
    return None


def bits_behind(decoder, state, inside):
    """For each sign the bit of the state behind it, 0 if there is none among those inside."""
    return [0 if entry is None else (1 << entry[0]) & inside for entry in decoder.steps[state]]


def set_behind(bits, members, sign):
    """The set of the states behind a sign, None if one of the members has none."""
    goal = 0
    for state, told in bits.items():
        if (members >> state) & 1:
            if told[sign] == 0:
                return None
            goal = goal | told[sign]
    return goal


def line_to(behind, members):
    line = []
    while behind[members] is not None:
        members, sign = behind[members]
        line.append(sign)
    line.reverse()
    return tuple(line)


def can_all_meet(decoder, states):
    """Whether for each two of the states some line leads both, by entries to these states alone, to one state."""
    ahead = {}
    inside = {state: True for state in states}
    for one in states:
        for other in states:
            for left, right in zip(decoder.steps[one], decoder.steps[other]):
                if left is not None and right is not None and left[0] in inside and right[0] in inside:
                    ahead.setdefault((left[0], right[0]), []).append((one, other))
    met = {(state, state): True for state in states}
    stack = list(met)
    while stack:
        for pair in ahead.get(stack.pop(), []):
            if pair not in met:
                met[pair] = True
                stack.append(pair)
    return len(met) == len(states) * len(states)
