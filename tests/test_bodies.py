"""Promises [7], [8], [24], [25], [26]: bodies, simplices, moved bodies; [31] of the wheels of bodies."""
import random
import unittest

from fewcorners.bodies import Body, moved, simplex
from fewcorners.corners import corner_places, is_corner
from fewcorners.errors import (Flattened, InvalidBody, InvalidMany, InvalidNumbers, InvalidPoints, InvalidTable, NotCorner,
                               NotFew)
from fewcorners.ratios import Ratio
from fewcorners.steps import excess, size, spokes, told_sums
from fewcorners.wheels import is_wheel
from tests.helpers import Wrong, any_kinds, few_points, fraction, kinds, raised, some_numbers

SQUARE = [[0, 0], [1, 0], [0, 1], [1, 1]]
SIX = [[1, 0, 0], [-1, 0, 0], [0, 1, 0], [0, -1, 0], [0, 0, 1], [0, 0, -1]]
LONG = 10 ** 50


def body_points():
    """Points of bodies: few, all of them corners."""
    found = [points for points in few_points(31, 150) if corner_places(points) == list(range(len(points)))]
    return found + [
        SQUARE, SIX, [[0], [1]], [[5, 5, 5], [5, 5, 6]], [[Ratio(1, 2), 0], [0, Ratio(1, 3)], [-1, -1]],
        [[at, at * at] for at in range(5)], [[at ** power for power in range(1, 7)] for at in range(-4, 5)],
        [[0] * 8] + [[1 if row == at else 0 for at in range(8)] for row in range(8)],
        [[0, 0, 0], [1, 0, 0], [0, 1, 0], [1, 1, 0], [0, 0, LONG]],
    ]


class BodyTest(unittest.TestCase, Wrong):
    def test_parts_are_those_of_the_points(self):
        sizes = set()
        for points in body_points():
            for body in (Body(points), Body(points=tuple(map(tuple, points)))):
                self.assertEqual([body.many, body.size, body.excess], [len(points), size(points), excess(points)])
                self.assertEqual({type(body.many), type(body.size), type(body.excess)}, {int})
                self.assertEqual(body.points(), [[Ratio(0) + number for number in point] for point in points])
                self.assertEqual(body.wheel(), spokes(points))
                self.assertGreaterEqual(body.size, 1)
            sizes.add((body.size, body.excess))
        self.assertGreater(len(sizes), 10)

    def test_wheels_of_bodies_are_wheels(self):
        for points in body_points():
            self.assertIs(is_wheel(Body(points).wheel()), excess(points) > 0)
        self.assertEqual(Body([[0], [1]]).wheel(), [[], []])

    def test_told_lists_are_new_and_the_body_never_changes(self):
        given = [[0, 0], [1, 0], [0, 1], [1, 1]]
        body = Body(given)
        given[0][0] = 7
        given.pop()
        self.assertEqual(body, Body(SQUARE))
        for told in (body.points, body.wheel):
            first = self.check_new(told)
            first[0][0] = "changed"
            first.pop()
        self.assertEqual([body.points(), body.wheel()], [Body(SQUARE).points(), Body(SQUARE).wheel()])
        for name in ("many", "size", "excess"):
            self.assertIsInstance(raised(setattr, body, name, 3), AttributeError)

    def test_equal_with_the_same_points_in_the_same_sequence(self):
        body = Body(SQUARE)
        self.assertTrue(body == Body([[Ratio(0), 0], (1, 0), [0, Ratio(3, 3)], [1, 1]]))
        self.assertFalse(body != Body(SQUARE))
        for points in ([[1, 0], [0, 0], [0, 1], [1, 1]], [[0, 0], [1, 0], [0, 1], [1, 2]], [[0, 0], [1, 0], [0, 1]],
                       [[0, 0, 0], [1, 0, 0], [0, 1, 0], [1, 1, 0]]):
            self.assertTrue(body != Body(points))
            self.assertFalse(body == Body(points))
        for value in any_kinds() + [SQUARE, body.points(), tuple(SQUARE)]:
            self.assertIs(body == value, False)
            self.assertIs(value == body, False)

    def test_repr(self):
        self.assertEqual(repr(Body([[0], [1]])), "Body([[Ratio(0, 1)], [Ratio(1, 1)]])")
        self.assertEqual(repr(Body([[0, Ratio(1, -2)], (1, 1)])),
                         "Body([[Ratio(0, 1), Ratio(-1, 2)], [Ratio(1, 1), Ratio(1, 1)]])")

    def test_invalid_points(self):
        self.check_wrong(Body, {}, "points", InvalidPoints, kinds() + [[[0]], [[0], [True]], [[at] for at in range(10)]])

    def test_not_few_ahead_of_not_a_corner(self):
        for points in ([[0], [1], [2], [3], [4]], [[7]] * 4, [[at, at * at] for at in range(6)], [[0, 0]] * 9):
            self.assertIs(type(raised(Body, points)), NotFew)
            self.assertIs(type(raised(Body, points=points)), NotFew)

    def test_the_first_point_that_is_no_corner(self):
        for points, position in (([[0, 0], [4, 0], [0, 4], [1, 1]], 3), ([[1], [0], [2]], 0), ([[7], [7]], 0),
                                 ([[0], [1], [2], [3]], 1), ([[0, 0], [4, 0], [4, 0], [0, 4]], 1)):
            for told in (raised(Body, points), raised(Body, points=points)):
                self.assertEqual([type(told), told.position], [NotCorner, position])
        for points in few_points(32, 90):
            inner = [at for at in range(len(points)) if not is_corner(points, at)]
            told = raised(Body, points)
            self.assertEqual(None if told is None else told.position, inner[0] if inner else None)


class SimplexTest(unittest.TestCase, Wrong):
    def test_told_points(self):
        self.assertEqual(simplex(2).points(), [[Ratio(0)], [Ratio(1)]])
        self.assertEqual(simplex(3), Body([[0, 0], [1, 0], [0, 1]]))
        self.assertEqual(simplex(many=4), Body([[0, 0, 0], [1, 0, 0], [0, 1, 0], [0, 0, 1]]))

    def test_all_of_them(self):
        for many in range(2, 10):
            body = simplex(many)
            self.assertIs(type(body), Body)
            self.assertEqual([body.many, body.size, body.excess, body.wheel()], [many, many - 1, 0, [[]] * many])
            self.assertEqual([len(point) for point in body.points()], [many - 1] * many)

    def test_wrong_values(self):
        wrong = [value for value in kinds() if not (type(value) is int and 2 <= value <= 9)]
        self.check_wrong(simplex, {}, "many", InvalidMany, wrong + [-2, 10, 100, Ratio(3), True])


def tables(chance, high, wide):
    return [some_numbers(chance, wide, 3, True) for _ in range(high)]


def images(points, rows, shift):
    """The points moved, by fractions."""
    return [[sum((fraction(number) * fraction(row[at]) for number, row in zip(point, rows)), fraction(more))
             for at, more in enumerate(shift)] for point in points]


class MovedTest(unittest.TestCase, Wrong):
    def test_each_point_goes_where_the_table_and_the_shift_lead(self):
        chance = random.Random(33)
        flattened = kept = 0
        for points in body_points():
            body = Body(points)
            for wide in (len(points[0]), 8, chance.randint(1, 8)):
                rows, shift = tables(chance, len(points[0]), wide), some_numbers(chance, wide, 9, True)
                wanted = images(points, rows, shift)
                wanted = [[Ratio(number.numerator, number.denominator) for number in point] for point in wanted]
                if size(wanted) < body.size:
                    flattened += 1
                    self.assertIs(type(raised(moved, body, rows, shift)), Flattened)
                else:
                    kept += 1
                    told = moved(body, rows, shift)
                    self.assertEqual(told, Body(wanted))
                    self.assertEqual(moved(body=body, rows=tuple(map(tuple, rows)), shift=tuple(shift)), told)
                    self.assertEqual([told.wheel(), told_sums(wanted)], [body.wheel(), told_sums(points)])
                    self.assertEqual([told.many, told.size, told.excess], [body.many, body.size, body.excess])
        self.assertGreater(min(flattened, kept), 10)

    def test_into_more_directions_and_into_fewer(self):
        flat = moved(Body(SQUARE), [[1, 0, 1], [0, 2, 1]], [0, 0, 5])
        self.assertEqual(flat, Body([[0, 0, 5], [1, 0, 6], [0, 2, 6], [1, 2, 7]]))
        self.assertEqual(moved(flat, [[1, 0], [0, Ratio(1, 2)], [0, 0]], [0, 0]), Body(SQUARE))
        self.assertEqual(moved(Body([[5, 5], [6, 6]]), [[1], [0]], [-5]), simplex(2))

    def test_a_move_that_flattens(self):
        for rows in ([[1], [1]], [[0, 0], [0, 0]], [[1, 2], [2, 4]], [[0, 0, 0], [1, 2, 3]]):
            self.assertIs(type(raised(moved, Body(SQUARE), rows, [0] * len(rows[0]))), Flattened)
        self.assertIs(type(raised(moved, simplex(2), [[0]], [3])), Flattened)

    def test_what_is_passed_stays(self):
        body, rows, shift = Body(SQUARE), [[1, 0], [0, 1]], [Ratio(1, 2), 3]
        self.check_apart(moved(body, rows, shift).points(), list_of_lists(rows) + list_of_lists(body.points()))
        self.assertEqual([body, rows, shift], [Body(SQUARE), [[1, 0], [0, 1]], [Ratio(1, 2), 3]])

    def test_wrong_values(self):
        good = {"body": Body(SQUARE), "rows": [[1, 0], [0, 1]], "shift": [0, 0]}
        self.check_wrong(moved, good, "body", InvalidBody, kinds() + [SQUARE, [Body(SQUARE)]])
        bad = [[[1, 0]], [[1, 0], [0, 1], [0, 0]], [[1], [0, 1]], [[1, 0], [0]], [[0] * 9] * 2, [[1, 0], [0, True]],
               [[1, 0], [0, "1"]], [1, 0, 0, 1], [[1, 0], 0], {0: [1, 0], 1: [0, 1]}, [{0: 1}, {0: 1}], [[1, 0], [None, 1]]]
        self.check_wrong(moved, good, "rows", InvalidTable, bad + kinds())
        bad = [[0], [0, 0, 0], [0, True], [0, "0"], [[0, 0]], {0: 0, 1: 0}, "00", (0, None), [0, [0]], b"00", range(2)]
        self.check_wrong(moved, good, "shift", InvalidNumbers, bad + kinds())
        self.check_wrong(moved, dict(good, rows=[[1, 0, 0], [0, 1, 0]]), "shift", InvalidNumbers, [[0, 0], [0] * 4])

    def test_the_first_error_is_told(self):
        good = {"body": Body(SQUARE), "rows": [[1, 0], [0, 1]], "shift": [0, 0]}
        bad = {"body": SQUARE, "rows": [[1, 0]], "shift": [0]}
        self.check_first(moved, good, bad, [InvalidBody, InvalidTable, InvalidNumbers])
        told = raised(moved, Body(SQUARE), [[1], [1]], [0, 0])
        self.assertEqual([type(told), told.value], [InvalidNumbers, [0, 0]])


def list_of_lists(rows):
    return [rows] + list(rows)
