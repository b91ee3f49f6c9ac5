"""Promises [2] and [11]: numbers and Ratios."""
import unittest
from fractions import Fraction

from fewcorners.errors import DividedByZero, InvalidNumber
from fewcorners.ratios import Ratio, is_number
from tests.helpers import Wrong, any_kinds, fraction, kinds, raised

LONG = 10 ** 120 + 7
TOPS = [0, 1, -1, 2, 6, -9, 10 ** 6, LONG, -LONG * 3]
BOTTOMS = [1, -1, 2, -4, 6, 9, 10 ** 6, LONG, -LONG]
PAIRS = [(top, bottom) for top in TOPS for bottom in BOTTOMS]
RIGHT = [0, 1, -3, 10 ** 80, Ratio(0), Ratio(1, 2), Ratio(-2, 3), Ratio(LONG, 10 ** 99), Ratio(-7)]


def no_integers():
    return [value for value in kinds() if type(value) is not int]


def no_numbers():
    return [value for value in no_integers() if not isinstance(value, Ratio)]


class MadeTest(unittest.TestCase, Wrong):
    def test_lowest_terms_and_a_bottom_of_at_least_one(self):
        for top, bottom in PAIRS:
            wanted = Fraction(top, bottom)
            for made in (Ratio(top, bottom), Ratio(top=top, bottom=bottom), Ratio(bottom=bottom, top=top)):
                self.assertEqual((made.top, made.bottom), (wanted.numerator, wanted.denominator))
                self.assertEqual(made.sign, (wanted > 0) - (wanted < 0))
                self.assertIs(made.is_whole, wanted.denominator == 1)
                self.assertEqual({type(made.top), type(made.bottom), type(made.sign)}, {int})

    def test_bottom_is_one_if_it_is_not_told(self):
        self.assertEqual((Ratio(-5).top, Ratio(-5).bottom, Ratio(top=0).bottom), (-5, 1, 1))

    def test_wrong_tops_and_bottoms(self):
        self.check_wrong(Ratio, {"top": 1, "bottom": 2}, "top", InvalidNumber, no_integers())
        self.check_wrong(Ratio, {"top": 1, "bottom": 2}, "bottom", InvalidNumber, no_integers() + [0])
        self.check_wrong(Ratio, {"top": 1}, "top", InvalidNumber, no_integers())
        self.check_first(Ratio, {"top": 1, "bottom": 2}, {"top": "a", "bottom": "b"}, [InvalidNumber] * 2)
        self.check_first(Ratio, {"top": 1, "bottom": 2}, {"top": True, "bottom": 0}, [InvalidNumber] * 2)

    def test_nothing_can_be_set(self):
        made = Ratio(1, 2)
        for name in ("top", "bottom", "sign", "is_whole"):
            self.assertIsInstance(raised(setattr, made, name, 3), AttributeError)
        self.assertEqual(repr(made), "Ratio(1, 2)")


class ReckonedTest(unittest.TestCase):
    def check(self, answer, wanted):
        self.assertIs(type(answer), Ratio)
        self.assertEqual((answer.top, answer.bottom), (wanted.numerator, wanted.denominator))

    def test_sums_differences_products_with_numbers_on_the_right(self):
        for top, bottom in PAIRS:
            ratio, worth = Ratio(top, bottom), Fraction(top, bottom)
            for other in RIGHT:
                self.check(ratio + other, worth + fraction(other))
                self.check(ratio - other, worth - fraction(other))
                self.check(ratio * other, worth * fraction(other))
                self.assertEqual(fraction(ratio), worth)

    def test_integers_on_the_left(self):
        for top, bottom in PAIRS:
            ratio, worth = Ratio(top, bottom), Fraction(top, bottom)
            for left in (0, 1, -4, LONG):
                self.check(left + ratio, left + worth)
                self.check(left - ratio, left - worth)
                self.check(left * ratio, left * worth)

    def test_minus_in_front_and_without_sign(self):
        for top, bottom in PAIRS:
            self.check(-Ratio(top, bottom), -Fraction(top, bottom))
            self.check(Ratio(top, bottom).unsigned(), abs(Fraction(top, bottom)))

    def test_over(self):
        for top, bottom in PAIRS:
            for other in RIGHT:
                if fraction(other):
                    self.check(Ratio(top, bottom).over(other), Fraction(top, bottom) / fraction(other))
                    self.check(Ratio(top, bottom).over(other=other), Fraction(top, bottom) / fraction(other))
                else:
                    self.assertIs(type(raised(Ratio(top, bottom).over, other)), DividedByZero)

    def test_order(self):
        for top, bottom in PAIRS:
            ratio, worth = Ratio(top, bottom), Fraction(top, bottom)
            for other in RIGHT + [ratio, ratio + Ratio(1, LONG), ratio - Ratio(1, LONG)]:
                self.assertIs(ratio.is_below(other), worth < fraction(other))
                self.assertIs(ratio.is_at_most(other), worth <= fraction(other))
                self.assertIs(ratio.is_below(other=other), worth < fraction(other))
                self.assertIs(ratio.is_at_most(other=other), worth <= fraction(other))

    def test_wrong_values_on_the_right(self):
        half = Ratio(1, 2)
        for call in (lambda other: half + other, lambda other: half - other, lambda other: half * other,
                     half.over, half.is_below, half.is_at_most):
            for value in no_numbers():
                told = raised(call, value)
                self.assertIs(type(told), InvalidNumber, value)
                self.assertIs(told.value, value)
        for call in (half.over, half.is_below, half.is_at_most):
            self.assertIs(raised(call, other=True).value, True)

    def test_equal_to_ratios_alone(self):
        self.assertTrue(Ratio(2, 4) == Ratio(-1, -2))
        self.assertFalse(Ratio(2, 4) != Ratio(1, 2))
        self.assertTrue(Ratio(1, 2) != Ratio(1, 3))
        self.assertFalse(Ratio(1, 2) == Ratio(3, 2))
        for value in any_kinds():
            if not isinstance(value, Ratio):
                for ratio in (Ratio(0), Ratio(1), Ratio(1, 2), Ratio(7)):
                    self.assertIs(ratio == value, False)
                    self.assertIs(value == ratio, False)
                    self.assertIs(ratio != value, True)


class TotalTest(unittest.TestCase, Wrong):
    def test_totals(self):
        self.assertEqual(Ratio.total([]), Ratio(0))
        self.assertEqual(Ratio.total(()), Ratio(0))
        self.assertEqual(Ratio.total([3]), Ratio(3))
        self.assertEqual(Ratio.total((1, Ratio(1, 2), Ratio(1, 3), -1)), Ratio(5, 6))
        self.assertEqual(Ratio.total(numbers=[Ratio(LONG, 3), Ratio(-LONG, 3)]), Ratio(0))
        self.assertIs(type(Ratio.total([1, 2])), Ratio)

    def test_what_is_passed_stays(self):
        numbers = [1, Ratio(1, 2)]
        Ratio.total(numbers)
        self.assertEqual(numbers, [1, Ratio(1, 2)])

    def test_no_lists(self):
        wrong = [value for value in kinds() if not isinstance(value, (list, tuple))]
        self.check_wrong(Ratio.total, {"numbers": []}, "numbers", InvalidNumber, wrong)

    def test_the_first_element_that_is_no_number(self):
        for value in no_numbers():
            for numbers in ([value], [1, Ratio(1, 2), value, "later"], (value, None)):
                for told in (raised(Ratio.total, numbers), raised(Ratio.total, numbers=numbers)):
                    self.assertIs(type(told), InvalidNumber)
                    self.assertIs(told.value, value)


class ToldTest(unittest.TestCase, Wrong):
    def test_texts(self):
        for top, bottom in PAIRS:
            worth = Fraction(top, bottom)
            self.assertEqual(str(Ratio(top, bottom)), str(worth))
            self.assertEqual(repr(Ratio(top, bottom)), f"Ratio({worth.numerator}, {worth.denominator})")
        self.assertEqual([str(Ratio(0, -7)), str(Ratio(4, -6)), str(Ratio(-8, -4))], ["0", "-2/3", "2"])
        self.assertEqual(repr([Ratio(3, 2)]), "[Ratio(3, 2)]")

    def test_is_number(self):
        self.check_asked(is_number, {}, "value", True, [0, -1, LONG, Ratio(0), Ratio(1, 2), Ratio(-LONG, 3)])
        others = [value for value in any_kinds() if type(value) is not int and not isinstance(value, Ratio)]
        self.assertGreater(len(others), 40)
        self.check_asked(is_number, {}, "value", False, others)
