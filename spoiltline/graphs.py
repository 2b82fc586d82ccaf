"""Ways in graphs: a dict tells for each point the list of the points to which edges lead from it."""


def fewest_errors(starts, ahead):
    """For each point that is met from the starts, the least sum of costs, 0 or 1, on a way to it.

    Here ahead tells for each point a list of (point, cost).
    """
    least = {}
    waiting = list(starts)
    errors = 0
    while waiting:
        stack = waiting
        waiting = []
        while stack:
            point = stack.pop()
            if point in least:
                continue
            least[point] = errors
            stack.extend([goal for goal, cost in ahead.get(point, []) if cost == 0])
            waiting.extend([goal for goal, cost in ahead.get(point, []) if cost == 1])
        errors += 1
    return least


def cheapest_steps(start, is_goal, edges_from):
    """The steps of a way with the least sum of costs, 0 or 1, from the start to a goal, all points on it unlike;
    None if no way leads to one.

    Here edges_from(point) is a list of (step, point, cost).
    """
    behind = {}
    waiting = [(start, None)]
    while waiting:
        queue = []
        for point, last in waiting:
            if point not in behind:
                behind[point] = last
                queue.append(point)
        waiting = []
        at = 0
        while at < len(queue):
            point = queue[at]
            at += 1
            if is_goal(point):
                return steps_back(behind, point)
            for step, goal, cost in edges_from(point):
                if cost == 1:
                    waiting.append((goal, (point, step)))
                elif goal not in behind:
                    behind[goal] = (point, step)
                    queue.append(goal)
    return None


def steps_back(behind, goal):
    """The steps that lead to the goal; behind tells the last point and step of each point, None for the start."""
    steps = []
    last = behind[goal]
    while last is not None:
        point, step = last
        steps.append(step)
        last = behind[point]
    steps.reverse()
    return tuple(steps)


def edges_behind(ahead):
    """For each point to which an edge leads, the list of (point, cost) of the points from which edges lead to it."""
    behind = {}
    for point, edges in ahead.items():
        for goal, cost in edges:
            behind.setdefault(goal, []).append((point, cost))
    return behind


def strong_sets(ahead):
    """The greatest sets of points from each of which ways lead to each other one of the set."""
    behind = {point: [] for point in ahead}
    for point, goals in ahead.items():
        for goal in goals:
            behind[goal].append(point)
    taken = {}
    found = []
    for point in reversed(left_in_order(ahead)):
        if point not in taken:
            found.append(all_met(point, behind, taken))
    return found


def left_in_order(ahead):
    """All points, each behind those that are met from it alone, as a search into the depth leaves them."""
    entered = {}
    order = []
    for start in ahead:
        stack = [(start, False)]
        while stack:
            point, leaving = stack.pop()
            if leaving:
                order.append(point)
            elif point not in entered:
                entered[point] = True
                stack.append((point, True))
                stack.extend([(goal, False) for goal in ahead[point] if goal not in entered])
    return order


def all_met(start, ahead, taken):
    """The points that are met from the start and are not taken; they are taken then."""
    met = []
    stack = [start]
    while stack:
        point = stack.pop()
        if point not in taken:
            taken[point] = True
            met.append(point)
            stack.extend(ahead[point])
    return met
