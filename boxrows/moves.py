"""Moves: as few drags as possible from some heights of dividers to others."""

STILL = "still"
RAISED = "raised"
LOWERED = "lowered"
MIXED = "mixed"


class Group:
    """The dividers, from first to last, that have one height in the goal."""

    def __init__(self, first, last, height, kind):
        self.first = first
        self.last = last
        self.height = height
        self.kind = kind


def kind_of(heights, height):
    """How a group whose dividers have some heights comes to one height."""
    is_lower, is_higher = min(heights) < height, max(heights) > height
    if is_lower and is_higher:
        return MIXED
    if is_lower:
        return RAISED
    return LOWERED if is_higher else STILL


def groups_of(heights, goal):
    """The groups of dividers, ascending."""
    found = []
    first = 0
    for index, height in enumerate(goal):
        if index + 1 == len(goal) or goal[index + 1] != height:
            found.append(Group(first, index, height, kind_of(heights[first:index + 1], height)))
            first = index + 1
    return found


def runs_of(groups):
    """The lists of neighbouring groups none of which is still, each as long as it can be."""
    runs = [[]]
    for group in groups:
        if group.kind == STILL:
            runs.append([])
        else:
            runs[-1].append(group)
    return [run for run in runs if run]


def turning_place(run):
    """The first place in a run that parts it into one that ends raised and one that begins lowered, or None."""
    # Each of both may be empty. Such a place is there exactly if there is one of those
    # of which the document tells: from one of these on, all raised groups that come at
    # once may be put ahead of it, too.
    for place in range(len(run) + 1):
        ends_raised = place == 0 or run[place - 1].kind == RAISED
        begins_lowered = place == len(run) or run[place].kind == LOWERED
        if ends_raised and begins_lowered:
            return place
    return None


def moves_up_first(run):
    """The moves of a run whose last group is raised: all others go too high, then down again."""
    # The last group is never above its height, so nothing of it is left to be done
    # when the first divider has been taken there; the others come down from behind.
    return [(run[0].first, run[-1].height)] + [(group.last, group.height) for group in reversed(run[:-1])]


def moves_down_first(run):
    """The moves of a run whose first group is lowered: all others go too low, then up again."""
    return [(run[-1].last, run[0].height)] + [(group.first, group.height) for group in run[1:]]


def moves_of_run(run):
    """The tuples (divider, height), as few as possible, that lead the groups of a run to their heights."""
    place = turning_place(run)
    if place is None:
        # All groups go down to the height of the first one, which comes to it, too.
        return [(run[-1].last, run[0].height)] + [(group.first, group.height) for group in run]
    ahead = moves_up_first(run[:place]) if place > 0 else []
    behind = moves_down_first(run[place:]) if place < len(run) else []
    return ahead + behind


def moves_to(heights, goal):
    """The tuples (divider, height), as few as possible, that lead from some heights to others."""
    # What a move takes with it, out of its run, was on the wrong side before, and is
    # still on this side then; so no run changes what another one needs.
    return [move for run in runs_of(groups_of(heights, goal)) for move in moves_of_run(run)]
