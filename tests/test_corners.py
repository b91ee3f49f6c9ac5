"""Promises [4], [5] to [7], [21], [22], [23]: corners, corner forms and mixtures."""
import unittest

from fewcorners.corners import corner_form, corner_places, is_corner, is_corner_form, is_mixture, mixture
from fewcorners.errors import InvalidPlace, InvalidPoints, NotFew
from fewcorners.ratios import Ratio
from fewcorners.steps import excess, spokes
from fewcorners.sums import is_form, is_sum, numbers_of
from tests.helpers import (Wrong, any_kinds, few_points, fraction, fractions, heights_of, is_sum_of, kinds, product_sum,
                           raised, some_points)

SOME = [[0, 0], [4, 0], [0, 4], [1, 1]]
LINE = [[0, 0], [2, 4], [1, 2], [-1, -2]]
NOT_FEW = [[[0], [1], [2], [3], [4]], [[7]] * 4, [[0, 0]] * 9, [[at, at * at] for at in range(6)]]
PLACED = (is_corner, corner_form, mixture)
BAD_PLACES = [4, 10 ** 40, -1, -4, True, False, Ratio(0), Ratio(1), "0", [0], None]


def bad_places():
    return BAD_PLACES + [value for value in kinds() if type(value) is not int]


def small_points():
    """Points with the excess 0, 1 or 2, corners and none among them, by name of what they show."""
    found = few_points(21, 60) + [points for points in some_points(22, 120) if excess(points) <= 2]
    return found + [
        SOME, LINE, [[7], [7]], [[7], [7], [7]], [[0], [1]], [[0], [1], [2]], [[0], [1], [1], [5]], [[3], [1], [2], [0]],
        [[0, 0], [1, 0], [0, 1], [1, 1]], [[0, 0], [4, 0], [0, 4], [2, 0]], [[0, 0], [4, 0], [0, 4], [1, 1], [2, 1]],
        [[0, 0], [4, 0], [0, 4], [0, 0]], [[0, 0], [4, 0], [0, 4], [0, 0], [4, 0]], [[0, 0], [0, 0], [1, 5]],
        [[0, 0, 0], [3, 0, 0], [0, 3, 0], [0, 0, 3], [1, 1, 1], [1, 1, 0]], [[1, 2, 3]] * 3,
        [[1, 0, 0], [-1, 0, 0], [0, 1, 0], [0, -1, 0], [0, 0, 1], [0, 0, -1]],
        [[0] * 8] + [[1 if row == at else 0 for at in range(8)] for row in range(8)],
        [[at ** power for power in range(1, 7)] for at in range(-4, 5)],
        [[Ratio(at, 7), Ratio(at * at, 49)] for at in range(5)],
        [[10 ** 60, 0], [0, Ratio(1, 10 ** 50)], [-1, -1], [0, 0]],
    ]


def check_form(test, points, place, form):
    """A corner form by the words of [22], reckoned here."""
    test.assertIs(is_form(points, form), True)
    levels = heights_of(points, form)
    test.assertEqual(levels[place], 0)
    test.assertTrue(all(level > 0 for at, level in enumerate(levels) if at != place))


def check_mixture(test, points, place, numbers):
    """A mixture by the words of [22], reckoned here."""
    numbers = fractions(numbers)
    test.assertEqual([len(numbers), numbers[place], sum(numbers)], [len(points), 0, 1])
    test.assertTrue(all(number >= 0 for number in numbers))
    for at in range(len(points[0])):
        test.assertEqual(product_sum([point[at] for point in points], numbers), fraction(points[place][at]))


class PapersTest(unittest.TestCase, Wrong):
    def test_just_one_of_both_papers_for_each_point(self):
        corners = inner = 0
        for points in small_points():
            told = corner_places(points)
            for place in range(len(points)):
                form = self.check_new(corner_form, points, place)
                mixed = self.check_new(mixture, points, place)
                self.assertEqual(form is None, mixed is not None)
                self.assertIs(is_corner(points, place), form is not None)
                self.assertEqual(place in told, form is not None)
                if form is None:
                    inner += 1
                    check_mixture(self, points, place, mixed)
                    self.assertIs(is_mixture(points, place, mixed), True)
                    self.assertEqual([type(mixed), {type(number) for number in mixed}], [list, {Ratio}])
                else:
                    corners += 1
                    check_form(self, points, place, form)
                    self.assertIs(is_corner_form(points, place, form), True)
                    self.assertEqual([type(form), type(form[0]), type(form[1])], [tuple, list, Ratio])
                    self.assertEqual({type(number) for number in form[0]}, {Ratio})
        self.assertGreater(min(corners, inner), 60)

    def test_papers_are_no_papers_of_other_points(self):
        for points in small_points():
            for place in range(len(points)):
                form, mixed = corner_form(points, place), mixture(points, place)
                for other in range(len(points)):
                    if other != place and form is not None:
                        self.assertIs(is_corner_form(points, other, form), False)
                    if other != place and mixed is not None and mixed[other].sign != 0:
                        self.assertIs(is_mixture(points, other, mixed), False)

    def test_answers_are_short(self):
        for points in small_points():
            for place in range(len(points)):
                form, mixed = corner_form(points, place), mixture(points, place)
                numbers = mixed if form is None else form[0] + [form[1]]
                self.assertTrue(all(max(abs(number.top), number.bottom) < 10 ** 1999 for number in numbers))

    def test_long_fractions_have_short_papers(self):
        points = [[Ratio(at ** power * 999983 + 1, 999979 - at * 7 - power) for power in range(1, 7)] for at in range(9)]
        self.assertEqual(excess(points), 2)
        for place in range(9):
            form, mixed = corner_form(points, place), mixture(points, place)
            numbers = mixed if form is None else form[0] + [form[1]]
            self.assertTrue(all(max(abs(number.top), number.bottom) < 10 ** 1999 for number in numbers))
            if form is None:
                check_mixture(self, points, place, mixed)
            else:
                check_form(self, points, place, form)

    def test_a_mixture_and_minus_one_is_a_sum_to_nought(self):
        for points in small_points():
            for place in range(len(points)):
                mixed = mixture(points, place)
                if mixed is not None:
                    made = mixed[:place] + [-1] + mixed[place + 1:]
                    self.assertTrue(is_sum_of(points, made))
                    self.assertIs(is_sum(points, made), True)
                    self.assertEqual(len(numbers_of(points, made)), excess(points))

    def test_same_worth_same_answers(self):
        for points in small_points():
            told = tuple(tuple(Ratio(0) + number for number in point) for point in points)
            self.assertEqual(corner_places(told), corner_places(points))
            for place in range(len(points)):
                self.assertEqual(corner_form(told, place), corner_form(points, place))
                self.assertEqual(mixture(points=told, place=place), mixture(points, place))


class CornersTest(unittest.TestCase, Wrong):
    def test_without_excess_all_are_corners(self):
        for points in small_points():
            if excess(points) == 0:
                self.assertEqual(corner_places(points), list(range(len(points))))

    def test_with_the_excess_one_by_the_signs_of_the_others(self):
        seen = 0
        for points in small_points():
            if excess(points) == 1:
                signs = [spoke[0].sign for spoke in spokes(points)]
                for place in range(len(points)):
                    others = signs[:place] + signs[place + 1:]
                    wanted = set(others) == {0} or {1, -1} <= set(others)
                    self.assertIs(is_corner(points, place), wanted)
                    seen += 1
        self.assertGreater(seen, 50)

    def test_places(self):
        self.assertEqual(self.check_new(corner_places, SOME), [0, 1, 2])
        self.assertEqual(corner_places(points=[[0, 0], [4, 0], [0, 4], [2, 0], [1, 1]]), [0, 1, 2])
        self.assertEqual(corner_places([[7], [7]]), [])
        self.assertEqual(corner_places([[7], [7], [7]]), [])
        self.assertEqual(corner_places([[0, 0], [0, 0], [1, 5]]), [2])
        self.assertEqual(corner_places([[0], [1], [1], [5]]), [0, 3])

    def test_of_points_alike_none_is_a_corner(self):
        points = [[0, 0], [4, 0], [0, 4], [4, 0]]
        self.assertEqual(corner_places(points), [0, 2])
        self.assertIs(is_mixture(points, 1, [0, 0, 0, 1]), True)
        self.assertIs(is_mixture(points, 3, [0, 1, 0, 0]), True)
        self.assertEqual(mixture([[7], [7]], 0), [Ratio(0), Ratio(1)])

    def test_on_a_line_just_two_are_corners(self):
        self.assertEqual(corner_places(LINE), [1, 3])
        self.assertEqual(corner_places([[3], [1], [2], [0]]), [0, 3])
        self.assertEqual(corner_places([[Ratio(1, 2)], [Ratio(1, 3)]]), [0, 1])

    def test_in_the_middle_of_two_others(self):
        points = [[0, 0], [4, 0], [0, 4], [2, 0]]
        self.assertEqual(mixture(points, 3), [Ratio(1, 2), Ratio(1, 2), Ratio(0), Ratio(0)])
        self.assertIs(is_corner(points, 3), False)

    def test_answers_are_bools_and_integers(self):
        self.assertIs(is_corner(SOME, 3), False)
        self.assertIs(is_corner(points=SOME, place=0), True)
        self.assertEqual({type(place) for place in corner_places(SOME)}, {int})


FORMS = [([1, 1], 0), ((Ratio(1, 2), 3), 0), ([10 ** 40, 1], Ratio(0))]
NO_FORMS = [([1, 1], 1), ([1, 1], -1), ([1, 0], 0), ([0, 0], 0), ([1, -1], 0), ([-1, -1], 0), [[1, 1], 0], ([1], 0),
            ([1, 1], 0, 0), ([1, True], 0), ([1, 1], False), ([1, 1, 1], 0), ("11", 0), ([1, "1"], 0)]
MIXTURES = [[Ratio(1, 2), Ratio(1, 4), Ratio(1, 4), 0], (Ratio(1, 2), Ratio(1, 4), Ratio(1, 4), Ratio(0))]
NO_MIXTURES = [
    [0, 0, 0, 1], [2, 1, 1, 0], [Ratio(1, 2), Ratio(1, 4), Ratio(1, 4)], [1, 0, 0, 0], [0, 0, 0, 0],
    [Ratio(1, 2), Ratio(1, 4), Ratio(1, 4), False], [Ratio(1, 2), Ratio(1, 4), Ratio(1, 4), -1],
    [Ratio(1, 4), Ratio(1, 8), Ratio(1, 8), Ratio(1, 2)], [Ratio(1, 2), Ratio(1, 4), Ratio(1, 4), 0, 0],
    [True, False, False, False], {0: 1, 1: 0, 2: 0, 3: 0}, "1000", [Ratio(1, 2), Ratio(1, 2), 0, 0], [None] * 4,
]


class JudgesTest(unittest.TestCase, Wrong):
    def test_corner_forms(self):
        self.check_asked(is_corner_form, {"points": SOME, "place": 0}, "value", True, FORMS)
        self.check_asked(is_corner_form, {"points": SOME, "place": 0}, "value", False, NO_FORMS + any_kinds())
        self.check_asked(is_corner_form, {"points": SOME, "place": 3}, "value", False, FORMS + NO_FORMS + any_kinds())
        self.check_asked(is_corner_form, {"points": [[0], [2], [1]], "place": 1}, "value", True, [([-1], 2)])
        self.check_asked(is_corner_form, {"points": [[0], [2], [1]], "place": 1}, "value", False, [([1], 0), ([-1], 1)])

    def test_mixtures(self):
        self.check_asked(is_mixture, {"points": SOME, "place": 3}, "value", True, MIXTURES)
        self.check_asked(is_mixture, {"points": SOME, "place": 3}, "value", False, NO_MIXTURES + any_kinds())
        self.check_asked(is_mixture, {"points": SOME, "place": 0}, "value", False, MIXTURES + NO_MIXTURES + any_kinds())

    def test_each_condition_of_a_mixture_counts(self):
        points = [[0], [2], [1], [-1]]
        self.assertIs(is_mixture(points, 2, [Ratio(1, 2), Ratio(1, 2), 0, 0]), True)
        self.assertIs(is_mixture(points, 2, [-1, 1, 0, 1]), False)
        self.assertIs(is_mixture(points, 2, [Ratio(1, 2), Ratio(1, 2), 5, 0]), False)
        self.assertIs(is_mixture(points, 2, [Ratio(1, 2), Ratio(1, 2), -1, 0]), False)
        self.assertIs(is_mixture(points, 2, [Ratio(2, 3), Ratio(2, 3), 0, Ratio(1, 3)]), False)
        self.assertIs(is_mixture(points, 2, [0, 1, 0, 1]), False)
        self.assertIs(is_mixture(points, 2, [0, Ratio(1, 2), 0, 0]), False)
        self.assertIs(is_mixture(points, 2, [0, Ratio(1, 3), Ratio(1, 3), 0]), False)
        self.assertIs(is_mixture(points, 2, [0, 0, 1, 0]), False)
        self.assertIs(is_mixture(points, 2, [0, Ratio(2, 3), 0, Ratio(1, 3)]), True)


class WrongCallsTest(unittest.TestCase, Wrong):
    def calls(self):
        for function in PLACED:
            yield function, {"points": SOME, "place": 0}
        for function in (is_corner_form, is_mixture):
            yield function, {"points": SOME, "place": 0, "value": None}

    def test_wrong_values(self):
        for function, good in self.calls():
            self.check_wrong(function, good, "points", InvalidPoints, kinds() + [[[0]], [[0], [True]]])
            self.check_wrong(function, good, "place", InvalidPlace, bad_places())
            self.check_first(function, good, {"points": [[0]], "place": 9}, [InvalidPoints, InvalidPlace])
        self.check_wrong(corner_places, {}, "points", InvalidPoints, kinds())

    def test_not_few_behind_the_parameters(self):
        for points in NOT_FEW:
            self.assertGreater(excess(points), 2)
            self.assertIs(type(raised(corner_places, points)), NotFew)
            for function, good in self.calls():
                values = dict(good, points=points)
                self.assertIs(type(raised(function, **values)), NotFew)
                self.assertIs(type(raised(function, *values.values())), NotFew)
                told = raised(function, **dict(values, place=len(points)))
                self.assertEqual([type(told), told.value], [InvalidPlace, len(points)])

    def test_the_excess_two_is_few(self):
        self.assertEqual(corner_places([[0], [1], [2], [3]]), [0, 3])
