"""Drags (promises 42 to 45; section 12 of the interface)."""

import itertools
import random
import unittest

from boxrows import drags as module
from boxrows.drags import dragged, fewest_drags, repeated, some_drags
from boxrows.errors import InvalidDrags, InvalidGoal, InvalidIndex, InvalidNumber, InvalidSizes, InvalidTimes, MixedDrags, TooLarge
from tests.models import slow_dragged
from tests.wrong import NO_FRACTIONS, NO_NUMBERS, WRONG_NUMBERS, wrong_indexes

GREAT = 10 ** 30
FAR = 10 ** 99
NO_INTEGERS = NO_NUMBERS + NO_FRACTIONS + [(1, 1), (1, 2), (0, 1)]


def slow_repeated(sizes, leasts, drags, times):
    for _ in range(times):
        for index, number in drags:
            sizes = slow_dragged(sizes, leasts, index, number)
    return sizes


def performed(sizes, leasts, drags):
    for index, number in drags:
        sizes = dragged(sizes, leasts, index, number)
    return sizes


def any_boxes(source, most=7, top=9):
    leasts = [source.randint(0, 3) for _ in range(source.randint(2, most))]
    return [least + source.choice([0, source.randint(0, top)]) for least in leasts], leasts


def any_drags(source, many, top=6):
    """Drags of one divider, or in one direction."""
    number = source.randint(1, 5)
    mode = source.randint(0, 2)
    if mode == 0:
        index = source.randrange(many)
        return [(index, source.randint(-top, top)) for _ in range(number)]
    sign = 1 if mode == 1 else -1
    return [(source.randrange(many), sign * source.randint(0, top)) for _ in range(number)]


def heights(sizes, leasts):
    return [sum(sizes[:at]) - sum(leasts[:at]) for at in range(1, len(sizes))]


def kind_of(found, height):
    lower, higher = any(other < height for other in found), any(other > height for other in found)
    return {(False, False): "still", (True, False): "raised", (False, True): "lowered", (True, True): "mixed"}[lower, higher]


def told_number(sizes, leasts, goal):
    """How few drags are enough, word by word as in section 12."""
    pairs = list(zip(heights(goal, leasts), heights(sizes, leasts)))
    kinds = []
    for height, group in itertools.groupby(pairs, key=lambda found: found[0]):
        kinds.append(kind_of([old for _, old in group], height))
    total = 0
    for still, run in itertools.groupby(kinds, key=lambda kind: kind == "still"):
        if not still:
            run = list(run)
            places = [0] + [at + 1 for at, kind in enumerate(run) if kind == "raised"]
            total += len(run) + (not any(is_place(run[place:]) for place in places))
    return total


def is_place(kinds):
    if "mixed" not in kinds:
        return True
    return "lowered" in kinds and kinds.index("lowered") < kinds.index("mixed")


class DraggedTest(unittest.TestCase):
    def test_against_the_slow_way(self):
        source = random.Random(1101)
        for _ in range(3000):
            sizes, leasts = any_boxes(source)
            index, number = source.randrange(len(sizes) - 1), source.randint(-25, 25)
            found = dragged(sizes, leasts, index, number)
            self.assertEqual(found, slow_dragged(sizes, leasts, index, number))
            self.assertEqual(sum(found), sum(sizes))
            self.assertTrue(all(size >= least for size, least in zip(found, leasts)))

    def test_by_hand(self):
        sizes, leasts = [5, 5, 5], [2, 4, 1]
        rows = [(0, 0, [5, 5, 5]), (1, 0, [5, 5, 5]), (0, 1, [6, 4, 5]), (0, 2, [7, 4, 4]), (0, 5, [10, 4, 1]), (0, 6, [10, 4, 1]),
                (0, FAR, [10, 4, 1]), (0, -1, [4, 6, 5]), (0, -3, [2, 8, 5]), (0, -4, [2, 8, 5]), (0, -FAR, [2, 8, 5]),
                (1, 4, [5, 9, 1]), (1, FAR, [5, 9, 1]), (1, -1, [5, 4, 6]), (1, -2, [4, 4, 7]), (1, -FAR, [2, 4, 9])]
        for index, number, found in rows:
            self.assertEqual(dragged(sizes, leasts, index, number), found)
        self.assertEqual(dragged([3, 3], [3, 3], 0, 9), [3, 3])
        self.assertEqual(dragged([0, 0], [0, 0], 0, -9), [0, 0])
        self.assertEqual(dragged([FAR, FAR], [0, 1], 0, FAR), [2 * FAR - 1, 1])

    def test_forty_boxes(self):
        source = random.Random(1102)
        for _ in range(50):
            leasts = [source.randint(0, FAR) for _ in range(40)]
            sizes = [least + source.randint(0, FAR) for least in leasts]
            for number in (source.randint(-50 * FAR, 50 * FAR), source.randint(-FAR, FAR)):
                index = source.randrange(39)
                self.assertEqual(dragged(sizes, leasts, index, number), slow_dragged(sizes, leasts, index, number))

    def test_lists_are_new(self):
        sizes, leasts = [5, 5], [1, 1]
        for found in (dragged(sizes, leasts, 0, 0), repeated(sizes, leasts, [(0, 1)], 0), repeated(sizes, leasts, [(0, 0)], 1)):
            self.assertEqual(found, sizes)
            self.assertIsNot(found, sizes)
            found.clear()
        self.assertEqual([sizes, leasts], [[5, 5], [1, 1]])
        some_drags(sizes, leasts, [4, 6]).clear()
        self.assertEqual(len(some_drags(sizes, leasts, [4, 6])), 1)

    def test_defined_in_their_file(self):
        for name in ("dragged", "repeated", "fewest_drags", "some_drags"):
            self.assertEqual(getattr(module, name).__module__, "boxrows.drags")


class RepeatedTest(unittest.TestCase):
    def test_against_the_slow_way(self):
        source = random.Random(1111)
        for _ in range(6000):
            sizes, leasts = any_boxes(source, source.choice([3, 7, 12]), source.choice([4, 12]))
            drags, times = any_drags(source, len(sizes) - 1, source.choice([2, 8])), source.randint(0, 7)
            self.assertEqual(repeated(sizes, leasts, drags, times), slow_repeated(sizes, leasts, drags, times))

    def test_very_many_times(self):
        source = random.Random(1112)
        for _ in range(500):
            sizes, leasts = any_boxes(source, 6, 9)
            drags = any_drags(source, len(sizes) - 1, 3)
            # Each time moves something by 1 at least until all stays, so a hundred times lead as far as any more.
            wanted = slow_repeated(sizes, leasts, drags, 100)
            self.assertEqual(repeated(sizes, leasts, drags, GREAT), wanted)
            self.assertEqual(repeated(sizes, leasts, drags, GREAT - 1), wanted)

    def test_there_and_back_again(self):
        sizes, leasts = [10, 10, 10, 10], [1, 2, 3, 4]
        rows = [
            ([(1, 5), (1, -5)], 1, sizes),
            ([(1, 9), (1, -9)], 1, [10, 10, 12, 8]),
            ([(1, 9), (1, -9)], GREAT, [10, 10, 12, 8]),
            ([(1, -12), (1, 12)], GREAT, [6, 14, 10, 10]),
            ([(1, -12), (1, 13)], 2, [6, 16, 8, 10]),
            ([(1, -12), (1, 13)], GREAT, [6, 27, 3, 4]),
            ([(1, 2), (1, -3)], 3, [10, 7, 13, 10]),
            ([(1, 2), (1, -3)], GREAT, [1, 2, 27, 10]),
            ([(0, FAR), (0, -FAR)], 1, [1, 32, 3, 4]),
            ([(0, FAR), (0, -FAR)], GREAT, [1, 32, 3, 4]),
            ([(2, -FAR), (2, FAR)], GREAT, [1, 2, 33, 4]),
            ([(1, 0)], GREAT, sizes),
            ([(0, 0), (1, 0), (2, 0)], GREAT, sizes),
        ]
        for drags, times, found in rows:
            with self.subTest(drags=drags, times=times):
                self.assertEqual(repeated(sizes, leasts, drags, times), found)
                self.assertEqual(slow_repeated(sizes, leasts, drags, min(times, 200)), found)

    def test_great_sizes_very_many_times(self):
        huge = 10 ** 70
        self.assertEqual(repeated([huge, huge, huge], [0, 0, 0], [(0, 7), (0, -4)], GREAT),
                         [huge + 3 * GREAT, huge - 3 * GREAT, huge])
        self.assertEqual(repeated([huge, GREAT, huge], [0, 0, 0], [(0, 7), (0, -4)], GREAT),
                         [huge + 3 * GREAT, 4, huge - 2 * GREAT - 4])
        self.assertEqual(repeated([huge] * 3, [0] * 3, [(0, 1), (1, 2)], GREAT), [huge + GREAT, huge + GREAT, huge - 2 * GREAT])
        self.assertEqual(repeated([huge] * 3, [0] * 3, [(1, -2), (0, -1)], GREAT), [huge - GREAT, huge - GREAT, huge + 2 * GREAT])
        self.assertEqual(repeated([0, 0, huge], [0] * 3, [(0, 1), (1, 1)], GREAT), [GREAT, 1, huge - GREAT - 1])
        self.assertEqual(repeated([0, 0, huge], [0] * 3, [(1, 1), (0, 1)], GREAT), [GREAT, 0, huge - GREAT])
        self.assertEqual(repeated([0, 0, huge], [0] * 3, [(1, 1), (0, 2)], GREAT), [2 * GREAT, 0, huge - 2 * GREAT])
        self.assertEqual(repeated([0, 0, huge], [0] * 3, [(1, 1), (0, 0), (1, 0)], GREAT), [0, GREAT, huge - GREAT])

    def test_forty_drags_of_twelve_boxes(self):
        source = random.Random(1113)
        for sign in (1, -1):
            leasts = [source.randint(0, FAR) for _ in range(12)]
            sizes = [least + source.randint(0, FAR) for least in leasts]
            drags = [(source.randrange(11), sign * source.randint(0, 10 ** 97)) for _ in range(40)]
            for times in (1, 2, 9):
                self.assertEqual(repeated(sizes, leasts, drags, times), slow_repeated(sizes, leasts, drags, times))
            last = repeated(sizes, leasts, drags, GREAT)
            self.assertEqual(last, repeated(last, leasts, drags, GREAT))
            self.assertEqual(repeated(sizes, leasts, drags, GREAT // 3 * 2 + 5),
                             repeated(repeated(sizes, leasts, drags, GREAT // 3), leasts, drags, GREAT // 3 + 5))

    def test_two_times_are_one_after_the_other(self):
        source = random.Random(1114)
        for _ in range(200):
            leasts = [source.randint(0, GREAT) for _ in range(source.randint(2, 12))]
            sizes = [least + source.randint(0, 10 ** 62) for least in leasts]
            drags = any_drags(source, len(sizes) - 1, GREAT)
            one, two = source.randint(0, GREAT // 2), source.randint(0, GREAT // 2)
            self.assertEqual(repeated(sizes, leasts, drags, one + two), repeated(repeated(sizes, leasts, drags, one), leasts, drags, two))
            self.assertEqual(repeated(sizes, leasts, drags, 1), performed(sizes, leasts, drags))


class FewestTest(unittest.TestCase):
    def check(self, sizes, leasts, goal, number):
        self.assertEqual(fewest_drags(sizes, leasts, goal), number)
        drags = some_drags(sizes, leasts, goal)
        self.assertIsInstance(drags, list)
        self.assertEqual(len(drags), number)
        self.assertTrue(all(isinstance(drag, tuple) and len(drag) == 2 for drag in drags))
        self.assertEqual(performed(sizes, leasts, drags), goal)

    def all_sizes(self, many, top):
        for cuts in itertools.combinations_with_replacement(range(top + 1), many - 1):
            ends = (0,) + cuts + (top,)
            yield tuple(two - one for one, two in itertools.pairwise(ends))

    def distances(self, start, leasts):
        """The least numbers of drags that lead to all sizes, step by step."""
        found, edge = {start: 0}, [start]
        while edge:
            behind = []
            for sizes in edge:
                for index in range(len(sizes) - 1):
                    for number in range(-sum(sizes), sum(sizes) + 1):
                        new = tuple(slow_dragged(sizes, leasts, index, number))
                        if new not in found:
                            found[new] = found[sizes] + 1
                            behind.append(new)
            edge = behind
        return found

    def test_against_all_ways(self):
        for many, top in ((2, 3), (3, 4), (4, 4), (5, 3)):
            leasts = [at % 3 for at in range(many)]
            for start in list(self.all_sizes(many, top))[::2]:
                sizes = [size + least for size, least in zip(start, leasts)]
                for goal, number in self.distances(tuple(sizes), leasts).items():
                    self.check(sizes, leasts, list(goal), number)
                    self.assertEqual(told_number(sizes, leasts, list(goal)), number)

    def test_against_the_words_of_the_document(self):
        source = random.Random(1121)
        seen = set()
        for _ in range(2500):
            many = source.choice([4, 8, 12, 40])
            leasts = [source.randint(0, 2) for _ in range(many)]
            top = source.choice([2, 8, 40])
            cuts = [sorted(source.randint(0, top) for _ in range(many - 1)) for _ in range(2)]
            if source.random() < 0.5:
                kept = source.randrange(many)
                cuts[1] = sorted(cuts[0][:kept] + cuts[1][kept:])
            both = []
            for ends in cuts:
                ends = [0] + ends + [top]
                both.append([least + two - one for least, (one, two) in zip(leasts, itertools.pairwise(ends))])
            number = told_number(both[0], leasts, both[1])
            seen.add(number)
            self.check(both[0], leasts, both[1], number)
        self.assertGreater(len(seen), 20)

    def test_by_hand(self):
        rows = [
            ([5, 5], [0, 0], [5, 5], 0),
            ([5, 5], [0, 0], [4, 6], 1),
            ([3, 3, 1, 3], [0] * 4, [5, 0, 3, 2], 2),
            ([0, 4, 5], [0] * 3, [2, 0, 7], 2),
            ([1, 1, 1], [0] * 3, [3, 0, 0], 1),
            ([1, 1, 1], [0] * 3, [0, 0, 3], 1),
            ([1, 1, 1], [0] * 3, [0, 3, 0], 2),
            ([2, 2, 2, 2], [0] * 4, [3, 1, 1, 3], 2),
            ([0, 2, 2, 0], [0] * 4, [1, 0, 0, 3], 2),
            ([0, 4, 0, 4, 0, 4], [0] * 6, [2, 0, 4, 0, 4, 2], 3),
            ([GREAT, 0, 0, FAR], [0] * 4, [0, FAR, GREAT, 0], 3),
            ([7] * 40, [7] * 40, [7] * 40, 0),
        ]
        for sizes, leasts, goal, number in rows:
            with self.subTest(sizes=sizes, goal=goal):
                self.assertEqual(told_number(sizes, leasts, goal), number)
                self.check(sizes, leasts, goal, number)
        self.assertEqual(some_drags([5, 5, 2], [1, 2, 0], [5, 5, 2]), [])

    def test_great_sizes(self):
        source = random.Random(1122)
        for _ in range(100):
            many = source.randint(2, 40)
            leasts = [source.randint(0, FAR) for _ in range(many)]
            sizes = [least + source.choice([0, source.randint(0, FAR)]) for least in leasts]
            goal = sizes
            for _ in range(source.randint(0, 12)):
                goal = dragged(goal, leasts, source.randrange(many - 1), source.randint(-FAR, FAR))
            self.check(sizes, leasts, goal, told_number(sizes, leasts, goal))


class WrongArgumentsTest(unittest.TestCase):
    def fails(self, error, function, *args):
        with self.subTest(function=function.__name__, args=args):
            with self.assertRaises(error) as caught:
                function(*args)
            self.assertIs(caught.exception.__class__, error)
            return caught.exception

    def wrong_sizes(self):
        good, other = [5, 5, 5], [2, 4, 1]
        yield from ((wrong, other) for wrong in NO_NUMBERS + NO_FRACTIONS + [5, "555"])
        yield from ((good, wrong) for wrong in NO_NUMBERS + NO_FRACTIONS + [5, "555"])
        for item in NO_INTEGERS + [-1, -FAR]:
            yield [5, 5, item], other
            yield good, [2, 4, item]
            yield [item, 5], [0, 0]
        yield from ((good, other[:2]), (good[:2], other), ([5], [2]), ([], []), ([5] * 41, [2] * 41), (tuple(good), other),
                    (good, tuple(other)), ([5, 3, 5], other), (good, [2, 4, 6]), ([5] * 40, [2] * 41), (other, good))

    def test_wrong_sizes(self):
        for sizes, leasts in self.wrong_sizes():
            for index in (0, -1):
                self.fails(InvalidSizes, dragged, sizes, leasts, index, None)
                self.fails(InvalidSizes, dragged, sizes, leasts, index, 3)
            self.fails(InvalidSizes, repeated, sizes, leasts, [(0, 1)], 3)
            self.fails(InvalidSizes, repeated, sizes, leasts, [], -1)
            for function in (fewest_drags, some_drags):
                self.fails(InvalidSizes, function, sizes, leasts, [5, 5, 5])
                self.fails(InvalidSizes, function, sizes, leasts, None)

    def test_wrong_indexes_and_numbers(self):
        for many in (2, 3, 40):
            for index in wrong_indexes(many - 1):
                self.fails(InvalidIndex, dragged, [5] * many, [1] * many, index, 3)
                self.fails(InvalidIndex, dragged, [5] * many, [1] * many, index, None)
        for number in NO_INTEGERS:
            self.fails(InvalidNumber, dragged, [5, 5, 5], [2, 4, 1], 1, number)

    def test_wrong_drags(self):
        lists = NO_NUMBERS + NO_FRACTIONS + [3, "drags", ((0, 1),), [(0, 1)] * 41, [], {(0, 1): 1}]
        items = NO_NUMBERS + [[0, 1], (0,), (0, 1, 2), (2, 1), (-1, 1), (0, None), (None, 1), (True, 1), (0, True), ("0", 1), (0, 1.0),
                              ((0, 1), 1), (0, (1, 1)), (FAR, 1)]
        for drags in lists + [[item] for item in items] + [[(0, 1), item] for item in items] + [[(0, 1)] * 40 + [(0, 1)]]:
            for times in (3, -1):
                self.fails(InvalidDrags, repeated, [5, 5, 5], [2, 4, 1], drags, times)
        self.assertEqual(repeated([5, 5, 5], [2, 4, 1], [(0, 1)] * 40, 1), [10, 4, 1])

    def test_wrong_times(self):
        mixed = [(0, 1), (1, -1)]
        for times in WRONG_NUMBERS + [GREAT + 1, FAR]:
            for drags in ([(0, 1)], mixed):
                self.fails(InvalidTimes, repeated, [5, 5, 5], [2, 4, 1], drags, times)
                self.fails(InvalidTimes, repeated, [5] * 13, [2] * 13, drags, times)

    def test_mixed_drags(self):
        rows = [[(0, 1), (1, -1)], [(0, -1), (1, 1)], [(0, 1), (0, -1), (1, 0)], [(1, 0), (0, 1), (0, -1)], [(0, FAR), (1, 0), (1, -FAR)]]
        for drags in rows:
            for times in (0, 1, GREAT):
                self.fails(MixedDrags, repeated, [5, 5, 5], [2, 4, 1], drags, times)
                self.fails(MixedDrags, repeated, [5] * 13, [2] * 13, drags, times)
        for drags in ([(0, 1), (0, -1)], [(0, 1), (1, 0)], [(0, 0), (1, -1)], [(0, 0), (1, 0)], [(1, 5)]):
            self.assertEqual(repeated([5, 5, 5], [2, 4, 1], drags, 3), slow_repeated([5, 5, 5], [2, 4, 1], drags, 3))

    def test_too_many_boxes(self):
        for many in (13, 40):
            for drags in ([(0, 1)], [(0, 1), (0, -1)], [(0, 1), (1, 1)], [(0, 0)]):
                for times in (0, 1, GREAT):
                    self.assertEqual(self.fails(TooLarge, repeated, [5] * many, [2] * many, drags, times).limit, 12)
        self.assertEqual(repeated([5] * 12, [2] * 12, [(10, -40)], 1), [2] * 11 + [38])

    def test_wrong_goals(self):
        sizes, leasts = [5, 5, 5], [2, 4, 1]
        wrong = NO_NUMBERS + NO_FRACTIONS + [15, (5, 5, 5), [5, 5], [5, 5, 5, 0], [5, 5, 6], [5, 5, 4], [1, 5, 9], [9, 3, 3], [7, 8, 0],
                                             [16, 4, -5], [5, 5, 5.0], [5, 5, None], [5, 5, True], [14, True, 0], [], [15]]
        for goal in wrong:
            for function in (fewest_drags, some_drags):
                self.fails(InvalidGoal, function, sizes, leasts, goal)
        for goal in ([2, 4, 9], [10, 4, 1], [2, 12, 1]):
            self.assertEqual(performed(sizes, leasts, some_drags(sizes, leasts, goal)), goal)

    def test_arguments_stay(self):
        sizes, leasts, drags, goal = [5, 5, 5], [2, 4, 1], [(0, 3), (1, 2)], [2, 8, 5]
        dragged(sizes, leasts, 0, 3)
        repeated(sizes, leasts, drags, 5)
        repeated(sizes, leasts, [(1, -3)], 5)
        fewest_drags(sizes, leasts, goal)
        some_drags(sizes, leasts, goal)
        self.assertEqual([sizes, leasts, drags, goal], [[5, 5, 5], [2, 4, 1], [(0, 3), (1, 2)], [2, 8, 5]])


if __name__ == "__main__":
    unittest.main()
