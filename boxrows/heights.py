"""Heights of the dividers between boxes, and what drags do to them."""

from boxrows.boxes import limited

# The height of a divider is the sum of size less least width of all boxes ahead of it.
# From one divider to the next one heights do not fall; they are from 0 to top, the
# sum for all boxes. A drag takes its divider to another height, and with it those
# that would be on the wrong side then.


def frees_of(sizes, leasts):
    """What each box has above its least width."""
    return [size - least for size, least in zip(sizes, leasts)]


def heights_of(sizes, leasts):
    """The heights of the dividers."""
    frees = frees_of(sizes, leasts)
    return [sum(frees[:index + 1]) for index in range(len(frees) - 1)]


def sizes_with(heights, leasts, total):
    """The sizes of the boxes, if the dividers have some heights, and the sum of the sizes is total."""
    ends = [0] + heights + [total - sum(leasts)]
    return [least + ends[at + 1] - ends[at] for at, least in enumerate(leasts)]


def taken_to(heights, index, height):
    """The heights when a divider is dragged to a height."""
    if height > heights[index]:
        return heights[:index] + [max(other, height) for other in heights[index:]]
    return [min(other, height) for other in heights[:index + 1]] + heights[index + 1:]


def path_of(height, numbers, top):
    """The heights of a divider that is dragged by some numbers, one after another, from the first one on."""
    path = [height]
    for number in numbers:
        path.append(limited(path[-1] + number, 0, top))
    return path


def swung(heights, top, index, numbers, times):
    """The heights when one divider is dragged by some numbers, again and again."""
    first = path_of(heights[index], numbers, top)
    # All times together move the divider by the sum of the numbers each, but for the
    # bounds; so its heights ahead of each time rise or fall, and what it reaches on
    # its way it reaches the first or the last time.
    start = heights[index]
    if times > 1:
        low, high = path_of(0, numbers, top)[-1], path_of(top, numbers, top)[-1]
        start = limited(first[-1] + (times - 2) * sum(numbers), low, high)
    path = first + path_of(start, numbers, top)
    ahead = [min(height, min(path)) for height in heights[:index]]
    return ahead + [path[-1]] + [max(height, max(path)) for height in heights[index + 1:]]


# Drags by positive numbers lead each divider to the greatest one of some heights of
# dividers, each plus a number, but not above top. rows[j][i] is the number for the old
# height of i and the new height of j; it is 0 or more for each i up to j, as the old
# height of j is not less than that of i.


def rows_of(drags, many):
    """The numbers for some drags by positive numbers, one after another, of many dividers."""
    rows = [[0] * (at + 1) for at in range(many)]
    for index, number in drags:
        lifted = [more + number for more in rows[index]]
        for at in range(index, many):
            rows[at] = [max(old, new) for old, new in zip(rows[at], lifted)] + rows[at][index + 1:]
    return rows


def one_behind_other(first, second):
    """The numbers for what first does, then second."""
    return [
        [max([row[k] + first[k][i] for k in range(i, j + 1)]) for i in range(j + 1)]
        for j, row in enumerate(second)
    ]


def many_times(rows, times):
    """The numbers for what is done times times."""
    found = rows_of([], len(rows))
    while times > 0:
        if times % 2 == 1:
            found = one_behind_other(found, rows)
        rows = one_behind_other(rows, rows)
        times = times // 2
    return found


def lifted_by(heights, top, drags, times):
    """The heights when drags by positive numbers are performed times times."""
    rows = many_times(rows_of(drags, len(heights)), times)
    return [min(top, max([more + height for more, height in zip(row, heights)])) for row in rows]


def seen_from_behind(heights, top):
    """The heights of the dividers, if all boxes stand in the opposite sequence."""
    return [top - height for height in reversed(heights)]


def lowered_by(heights, top, drags, times):
    """The heights when drags by negative numbers are performed times times."""
    last = len(heights) - 1
    turned = [(last - index, -number) for index, number in drags]
    return seen_from_behind(lifted_by(seen_from_behind(heights, top), top, turned, times), top)
