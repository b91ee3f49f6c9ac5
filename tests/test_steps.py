"""Promises [5], [8], [12], [13], [14]: points, size and excess, told sums, spokes."""
import random
import unittest

from fewcorners.errors import InvalidPoints
from fewcorners.ratios import Ratio
from fewcorners.steps import excess, is_points, size, spokes, told_sums
from tests.helpers import (Wrong, any_kinds, few_points, is_in_steps, is_sum_of, kinds, product_sum, rank, size_of,
                           some_points)

SQUARE = [[0, 0], [1, 0], [0, 1], [1, 1]]
LONG = 10 ** 90 + 1
TOLD = (size, excess, told_sums, spokes)

GOOD = [
    SQUARE, [[0], [1]], [[7], [7]], [[Ratio(1, 2)], [-3], [Ratio(0)]], [[0] * 8, [1] * 8], [[at] for at in range(9)],
    ((0, 1), (2, 3)), [(0, 1), [2, 3]], ([0, 1], (2, Ratio(2, 3))), [[0, 0]] * 9, [[LONG], [Ratio(-1, LONG)]],
    [list(range(at, at + 8)) for at in range(9)],
]
NEARLY = [
    [[0]], [[at] for at in range(10)], [[0] * 9, [1] * 9], [[], []], [[0], [0, 1]], [[0, 1], [0]], [[0], 1], [1, [0]],
    [[0], None], [[0], "1"], [[0], [True]], [[False], [0]], [[0, 1], [2, None]], [[[0], [1]], [[2], [3]]],
    {0: [0], 1: [1]}, [{0: 0}, {0: 1}], [[0], {0}], [[0], range(1)], ["12", "34"], [b"12", b"34"], "[[0], [1]]",
    [[0, "1"], [1, 2]], [[0], [1], []], [[0], [1], [2, 3]], ([[0], [1]],), [[Ratio(1, 2)], ["1/2"]],
]


def all_points():
    return some_points(1) + few_points(2) + [
        SQUARE, [[7], [7]], [[1, 2]] * 5, [[0, 0], [1, 2], [2, 4], [-3, -6]], [[at] for at in range(9)],
        [[0] * 8, [1] * 8], [[LONG, 1], [Ratio(1, LONG), 2], [3, Ratio(-LONG, 7)], [Ratio(LONG, 3), LONG]],
        [[LONG], [-LONG], [2 * LONG]],
    ]


class PointsTest(unittest.TestCase, Wrong):
    def test_points(self):
        self.check_asked(is_points, {}, "value", True, GOOD)
        self.check_asked(is_points, {}, "value", True, all_points())

    def test_no_points(self):
        self.check_asked(is_points, {}, "value", False, NEARLY + any_kinds())

    def test_invalid_points(self):
        for function in TOLD:
            self.check_wrong(function, {}, "points", InvalidPoints, NEARLY + kinds())

    def test_any_points_are_taken_as_lists_or_tuples(self):
        for points in GOOD:
            told = tuple(tuple(point) for point in points)
            for function in TOLD:
                self.assertEqual(function(points), function(told))
                self.assertEqual(function(points), function(points=[list(point) for point in points]))

    def test_numbers_count_by_their_worth(self):
        for points in all_points():
            told = [[Ratio(0) + number for number in point] for point in points]
            for function in TOLD:
                self.assertEqual(function(points), function(told))


class SizeTest(unittest.TestCase, Wrong):
    def test_edges(self):
        self.assertEqual([size([[7], [7]]), excess([[7], [7]])], [0, 1])
        self.assertEqual([size([[7]] * 9), excess([[7]] * 9)], [0, 8])
        self.assertEqual([size([[0] * 8, [1] * 8]), excess([[0] * 8, [1] * 8])], [1, 0])
        self.assertEqual([size([[at] for at in range(9)]), excess([[at] for at in range(9)])], [1, 7])
        self.assertEqual([size([[0, 0], [1, 2], [2, 4]]), size([[LONG], [Ratio(1, LONG)]])], [1, 1])
        whole = [[1 if row == at else 0 for at in range(8)] for row in range(8)] + [[0] * 8]
        self.assertEqual([size(whole), excess(whole)], [8, 0])

    def test_size_is_that_of_the_differences(self):
        for points in all_points():
            wanted = size_of(points)
            self.assertEqual([size(points), excess(points)], [wanted, len(points) - wanted - 1])
            self.assertEqual({type(size(points)), type(excess(points))}, {int})
            self.assertTrue(0 <= wanted <= min(len(points[0]), len(points) - 1))

    def test_another_sequence(self):
        chance = random.Random(5)
        for points in all_points():
            other = list(points)
            for _ in range(3):
                chance.shuffle(other)
                self.assertEqual([size(other), excess(other)], [size(points), excess(points)])

    def test_a_list_added_to_all_points(self):
        for points in all_points():
            shift = [Ratio(at - 3, at + 1) for at in range(len(points[0]))]
            other = [[number + more for number, more in zip(point, shift)] for point in points]
            self.assertEqual([size(other), excess(other)], [size(points), excess(points)])


class SumsTest(unittest.TestCase, Wrong):
    def test_as_many_sums_as_the_excess_in_steps(self):
        for points in all_points():
            sums = told_sums(points)
            self.assertEqual(len(sums), len(points) - size_of(points) - 1)
            self.assertTrue(is_in_steps(sums))
            self.assertTrue(all(is_sum_of(points, row) for row in sums))
            self.assertTrue(all(type(number) is Ratio for row in sums for number in row))

    def test_told_exactly(self):
        self.assertEqual(told_sums([[0], [2], [5]]), [[Ratio(1), Ratio(-5, 3), Ratio(2, 3)]])
        self.assertEqual(told_sums([[7], [7], [8]]), [[Ratio(1), Ratio(-1), Ratio(0)]])
        self.assertEqual(told_sums([[8], [7], [7]]), [[Ratio(0), Ratio(1), Ratio(-1)]])
        self.assertEqual(told_sums([[7], [7], [7]]), [[Ratio(1), Ratio(0), Ratio(-1)], [Ratio(0), Ratio(1), Ratio(-1)]])
        self.assertEqual(told_sums([[0, 0], [1, 0], [0, 1]]), [])
        self.assertEqual(told_sums([[0], [1], [LONG]]), [[Ratio(1), Ratio(-LONG, LONG - 1), Ratio(1, LONG - 1)]])

    def test_a_list_added_to_all_points(self):
        for points in all_points():
            shift = [Ratio(5 - at, at + 2) for at in range(len(points[0]))]
            other = [[number + more for number, more in zip(point, shift)] for point in points]
            self.assertEqual(told_sums(other), told_sums(points))

    def test_places_exchanged_and_added_to_other_ones(self):
        for points in all_points():
            turned = [list(reversed(point)) for point in points]
            self.assertEqual(told_sums(turned), told_sums(points))
            if len(points[0]) > 1:
                added = [[point[0] + Ratio(3, 2) * point[-1]] + list(point[1:]) for point in points]
                self.assertEqual(told_sums(added), told_sums(points))

    def test_a_place_more_that_is_made_of_others(self):
        for points in all_points():
            if len(points[0]) < 8:
                more = [list(point) + [point[0] * 2 - point[-1] * Ratio(1, 3) + 4] for point in points]
                self.assertEqual(told_sums(more), told_sums(points))
                self.assertEqual(size(more), size(points))
                noughts = [[0] + list(point) for point in points]
                self.assertEqual(told_sums(noughts), told_sums(points))

    def test_answers_are_new(self):
        for points in all_points():
            self.check_new(told_sums, points)
            self.check_new(spokes, points)
            self.check_new(size, points)
            self.check_new(excess, points)


class SpokesTest(unittest.TestCase):
    def test_the_numbers_in_the_told_sums(self):
        for points in all_points():
            sums = told_sums(points)
            self.assertEqual(spokes(points), [[row[at] for row in sums] for at in range(len(points))])

    def test_as_many_numbers_as_the_excess(self):
        for points in all_points():
            self.assertEqual({len(spoke) for spoke in spokes(points)}, {excess(points)})

    def test_no_numbers_without_excess(self):
        self.assertEqual(spokes([[1, 0], [2, 3], [0, 5]]), [[], [], []])
        self.assertEqual(spokes([[0], [1]]), [[], []])

    def test_heads_have_the_spokes_one_and_noughts(self):
        for points in all_points():
            for own, row in enumerate(told_sums(points)):
                head = [number.sign for number in row].index(1)
                wanted = [Ratio(1 if at == own else 0) for at in range(excess(points))]
                self.assertEqual(spokes(points)[head], wanted)

    def test_spokes_add_up_to_nought(self):
        for points in all_points():
            rows = spokes(points)
            for at in range(excess(points)):
                self.assertEqual(product_sum([row[at] for row in rows], [1] * len(rows)), 0)

    def test_nought_exactly_if_no_mixture_of_others_in_whatever_numbers(self):
        noughts = 0
        for points in all_points():
            rows = spokes(points)
            for at in range(len(points)):
                others = [list(point) + [1] for place, point in enumerate(points) if place != at]
                free = rank(others + [list(points[at]) + [1]]) > rank(others)
                self.assertEqual(all(number.sign == 0 for number in rows[at]), free)
                noughts = noughts + free
        self.assertGreater(noughts, 20)
