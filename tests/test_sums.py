"""Promises [5], [6], [8], [13], [15], [16]: sums to nought, forms, heights, forms through lots."""
import itertools
import random
import unittest

from fewcorners.errors import InvalidForm, InvalidNumbers, InvalidPlaces, InvalidPoints, InvalidSum
from fewcorners.ratios import Ratio
from fewcorners.steps import excess, size, told_sums
from fewcorners.sums import form_through, heights, is_form, is_sum, numbers_of, sum_by
from tests.helpers import (Wrong, any_kinds, few_points, fraction, fractions, heights_of, is_sum_of, kinds, product_sum,
                           rank, size_of, some_numbers, some_points)

SQUARE = [[0, 0], [1, 0], [0, 1], [1, 1]]
LONG = 10 ** 70 + 3


def all_points():
    return some_points(11, 25) + few_points(12, 25) + [SQUARE, [[7], [7]], [[1, 2]] * 4, [[0], [2], [5], [9]]]


def multiples(chance, points):
    """Numbers, one for each told sum, and the sum that they make, by fractions."""
    numbers = [Ratio(chance.randint(-9, 9), chance.randint(1, 4)) for _ in range(excess(points))]
    rows = told_sums(points)
    made = [sum((fraction(number) * fraction(row[at]) for number, row in zip(numbers, rows)), fraction(0))
            for at in range(len(points))]
    return numbers, [Ratio(number.numerator, number.denominator) for number in made]


class IsSumTest(unittest.TestCase, Wrong):
    def test_sums(self):
        good = [[0, 0, 0, 0], [1, -1, -1, 1], (-2, 2, 2, -2), [Ratio(1, 3), Ratio(-1, 3), Ratio(-1, 3), Ratio(1, 3)],
                [LONG, -LONG, Ratio(-LONG), LONG]]
        self.check_asked(is_sum, {"points": SQUARE}, "value", True, good)
        self.check_asked(is_sum, {"points": tuple(map(tuple, SQUARE))}, "value", True, good)

    def test_no_sums(self):
        bad = [[1, -1, -1], [1, -1, -1, 1, 0], [1, -1, 1, -1], [1, 0, 0, 0], [0, 0, 0, Ratio(1, LONG)], [1, -1, -1, True],
               [False] * 4, ["0"] * 4, [[0]] * 4, "0000", b"0000", {0: 0, 1: 0, 2: 0, 3: 0}, [2, -1, -1, 1], [1, -1, -1, 0]]
        self.check_asked(is_sum, {"points": SQUARE}, "value", False, bad + any_kinds())

    def test_both_conditions_count(self):
        self.assertIs(is_sum([[1], [2]], [2, -1]), False)
        self.assertIs(is_sum([[1], [2]], [1, -1]), False)
        self.assertIs(is_sum([[1], [1]], [1, -1]), True)
        self.assertIs(is_sum([[0], [0]], [1, 1]), False)

    def test_noughts_sums_and_multiples(self):
        chance = random.Random(3)
        for points in all_points():
            self.assertIs(is_sum(points, [0] * len(points)), True)
            _, first = multiples(chance, points)
            _, second = multiples(chance, points)
            self.assertIs(is_sum(points, [one * 3 + other for one, other in zip(first, second)]), True)
            off = [first[0] + 1] + first[1:]
            self.assertIs(is_sum(points, off), is_sum_of(points, off))

    def test_invalid_points(self):
        self.check_wrong(is_sum, {"points": SQUARE, "value": [0]}, "points", InvalidPoints, kinds())


class MadeSumsTest(unittest.TestCase, Wrong):
    def test_made_and_told_back(self):
        chance = random.Random(4)
        for points in all_points():
            numbers, wanted = multiples(chance, points)
            self.assertEqual(self.check_new(sum_by, points, numbers), wanted)
            self.assertEqual(self.check_new(numbers_of, points, wanted), numbers)
            self.assertEqual(sum_by(points=points, numbers=tuple(numbers)), wanted)
            self.assertEqual(numbers_of(points=points, sum_now=tuple(wanted)), numbers)

    def test_the_numbers_at_the_heads(self):
        for points in all_points():
            heads = [[number.sign for number in row].index(1) for row in told_sums(points)]
            for row in told_sums(points):
                self.assertEqual(numbers_of(points, row), [row[head] for head in heads])

    def test_without_excess_and_of_noughts(self):
        self.assertEqual(sum_by([[0], [1]], []), [Ratio(0), Ratio(0)])
        self.assertEqual(numbers_of([[0], [1]], [0, 0]), [])
        self.assertEqual(numbers_of(SQUARE, [0, 0, 0, 0]), [Ratio(0)])
        self.assertEqual(repr(sum_by(SQUARE, [LONG])[0]), f"Ratio({LONG}, 1)")

    def test_numbers_are_told_as_ratios(self):
        for numbers in (sum_by(SQUARE, [3]), numbers_of(SQUARE, [1, -1, -1, 1])):
            self.assertEqual({type(number) for number in numbers}, {Ratio})

    def test_wrong_calls(self):
        good = {"points": SQUARE, "numbers": [1]}
        bad = [[], [1, 2], (1, 2), ["1"], [True], [None], [[1]], {0: 1}, "1", [1, "2"]]
        wrong = [value for value in kinds() if value != [1]]
        self.check_wrong(sum_by, good, "numbers", InvalidNumbers, bad + wrong)
        self.check_wrong(sum_by, {"points": [[0], [1]], "numbers": []}, "numbers", InvalidNumbers, [[0], [None], None, {}])
        self.check_wrong(sum_by, good, "points", InvalidPoints, kinds())
        self.check_first(sum_by, good, {"points": [[0]], "numbers": None}, [InvalidPoints, InvalidNumbers])
        good = {"points": SQUARE, "sum_now": [1, -1, -1, 1]}
        bad = [[1, -1, -1], [1, 1, 1, 1], [1, -1, -1, True], ["1"] * 4, {0: 0}, [0] * 5]
        self.check_wrong(numbers_of, good, "sum_now", InvalidSum, bad + kinds())
        self.check_wrong(numbers_of, good, "points", InvalidPoints, kinds())
        self.check_first(numbers_of, good, {"points": "p", "sum_now": [1, 0, 0, 0]}, [InvalidPoints, InvalidSum])


FORMS = [([1, 1], -1), ((1, Ratio(1, 2)), 0), ([0, 0], 0), ([0, 0], Ratio(1, 3)), ([LONG, -LONG], Ratio(1, LONG))]
NO_FORMS = [
    [[1, 1], -1], ([1], 0), ([1, 1, 1], 0), ([1, 1],), ([1, 1], 0, 0), ([1, 1], None), ([1, 1], True), ([1, False], 0),
    (None, 0), ("11", 0), ({0: 1, 1: 1}, 0), ({1, 2}, 0), ([1, "1"], 0), ([1, 1], [0]), ([1, 1], "0"), (0, [1, 1]),
    {0: [1, 1], 1: 0}, ([[1], [1]], 0), (([1, 1], 0),),
]


class FormsTest(unittest.TestCase, Wrong):
    def test_forms(self):
        self.check_asked(is_form, {"points": SQUARE}, "value", True, FORMS)

    def test_no_forms(self):
        self.check_asked(is_form, {"points": SQUARE}, "value", False, NO_FORMS + any_kinds())
        self.assertIs(is_form([[0], [1]], ([1, 1], 0)), False)
        self.assertIs(is_form([[0], [1]], ([1], 0)), True)

    def test_heights(self):
        self.assertEqual(heights(SQUARE, ([2, Ratio(1, 2)], -1)), [Ratio(-1), Ratio(1), Ratio(-1, 2), Ratio(3, 2)])
        self.assertEqual(heights(points=SQUARE, form=((0, 0), 7)), [Ratio(7)] * 4)
        chance = random.Random(6)
        for points in all_points():
            form = (some_numbers(chance, len(points[0]), 5, True), Ratio(chance.randint(-5, 5), 3))
            told = self.check_new(heights, points, form)
            self.assertEqual(fractions(told), heights_of(points, form))
            self.assertEqual({type(height) for height in told}, {Ratio})

    def test_heights_and_sums_to_nought(self):
        chance = random.Random(7)
        for points in all_points():
            form = (some_numbers(chance, len(points[0])), 5)
            _, made = multiples(chance, points)
            self.assertEqual(product_sum(heights(points, form), made), 0)

    def test_numbers_are_heights_exactly_if_the_told_sums_take_them_to_nought(self):
        chance = random.Random(8)
        for points in all_points():
            for levels in (some_numbers(chance, len(points)), heights(points, ([1] * len(points[0]), 2))):
                rows = [list(point) + [1] for point in points]
                more = [row + [level] for row, level in zip(rows, levels)]
                allowed = all(product_sum(row, levels) == 0 for row in told_sums(points))
                self.assertEqual(allowed, rank(more) == rank(rows))

    def test_other_forms_with_the_same_heights_in_flat_points(self):
        flat = [[0, 0], [1, 1], [3, 3]]
        self.assertEqual(heights(flat, ([1, 0], 2)), heights(flat, ([0, 1], 2)))

    def test_wrong_calls(self):
        self.check_wrong(is_form, {"points": SQUARE, "value": 1}, "points", InvalidPoints, kinds())
        good = {"points": SQUARE, "form": ([1, 1], 0)}
        self.check_wrong(heights, good, "points", InvalidPoints, kinds())
        self.check_wrong(heights, good, "form", InvalidForm, NO_FORMS + kinds())
        self.check_first(heights, good, {"points": [[0], [True]], "form": ([1], 0)}, [InvalidPoints, InvalidForm])


class ThroughTest(unittest.TestCase, Wrong):
    def check_through(self, points, places):
        """The form told is through the lot; none is told exactly where none is."""
        lot = [list(points[at]) + [1] for at in places]
        form = self.check_new(form_through, points, places)
        if form is None:
            self.assertEqual(rank(lot), size_of(points) + 1)
            return False
        self.assertLess(rank(lot), size_of(points) + 1)
        self.assertIs(is_form(points, form), True)
        self.assertEqual([type(form), type(form[0])], [tuple, list])
        self.assertEqual({type(number) for number in form[0] + [form[1]]}, {Ratio})
        levels = heights_of(points, form)
        self.assertTrue(any(levels))
        self.assertTrue(all(levels[at] == 0 for at in places))
        return True

    def test_all_lots(self):
        found = {True: 0, False: 0}
        for points in all_points():
            if len(points) < 7:
                for many in range(len(points) + 1):
                    for places in itertools.combinations(range(len(points)), many):
                        found[self.check_through(points, list(places))] += 1
        self.assertGreater(min(found.values()), 100)

    def test_lots_of_two_and_more_by_size(self):
        for points in all_points():
            for many in (2, len(points) - 1):
                places = list(range(many))
                if many >= 2:
                    lot = [points[at] for at in places]
                    self.assertEqual(form_through(points, places) is not None, size(lot) < size(points))

    def test_nothing_and_single_points(self):
        self.assertTrue(self.check_through([[7], [7]], []))
        self.assertTrue(self.check_through([[0, 0]] * 3, []))
        self.assertFalse(self.check_through([[7], [7]], [0]))
        self.assertFalse(self.check_through([[1, 2], [1, 2], [1, 2]], [1]))
        self.assertTrue(self.check_through([[1, 2], [1, 2], [1, 3]], [1]))
        self.assertTrue(self.check_through([[7], [8]], [1]))
        self.assertFalse(self.check_through([[7], [8]], [0, 1]))

    def test_tuples_names_and_worth(self):
        form = form_through(SQUARE, [0, 3])
        self.assertEqual(form_through(points=tuple(map(tuple, SQUARE)), places=(0, 3)), form)
        told = [[Ratio(number) for number in point] for point in SQUARE]
        self.assertEqual(form_through(told, [0, 3]), form)

    def test_wrong_calls(self):
        good = {"points": SQUARE, "places": [0, 1]}
        bad = [[1, 0], [0, 0], [4], [0, 4], [-1], [0, -1], [True], [0, True], [Ratio(1)], ["0"], [[0]], [0, None], {0: 1},
               "01", (1, 0), range(2), {0, 1}]
        wrong = [value for value in kinds() if value not in ([], ())]
        self.check_wrong(form_through, good, "places", InvalidPlaces, bad + wrong)
        self.check_wrong(form_through, good, "points", InvalidPoints, kinds())
        self.check_first(form_through, good, {"points": [[0]], "places": [9]}, [InvalidPoints, InvalidPlaces])
