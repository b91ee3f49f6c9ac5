"""Promises [9], [34], [35], [36], and [4] of wheels: balances, tippings, least balanced lots."""
import itertools
import unittest

from fewcorners.balances import balance, is_balance, is_balanced, is_tipping, least_balanced, tipping
from fewcorners.bodies import Body
from fewcorners.errors import InvalidPlaces, InvalidWheel
from fewcorners.ratios import Ratio
from fewcorners.wheels import in_letters
from tests.helpers import (Wrong, all_lots, any_kinds, bad_lots, fraction, fractions, kinds, longest, product_sum, raised,
                           some_lots, told_otherwise)
from tests.samples import SIX, SQUARE, some_wheels
from tests.test_wheels import FIVE, NEARLY, RING, THREE, some_tables

LOTS = (is_balanced, balance, tipping)
JUDGES = (is_balance, is_tipping)
SEVEN = [[1, 0], [0, 0], [1, 2], [-1, 2], [-1, 0], [1, -3], [-1, -1]]


def spokes_of(wheel, places):
    return [wheel[at] for at in places]


def check_balance(test, wheel, places, numbers):
    """A balance by the words of [34], reckoned here."""
    test.assertEqual(len(numbers), len(places))
    test.assertTrue(all(number > 0 for number in fractions(numbers)))
    for at in range(len(wheel[0])):
        test.assertEqual(product_sum(numbers, [spoke[at] for spoke in spokes_of(wheel, places)]), 0)


def check_tipping(test, wheel, places, normal):
    """A tipping by the words of [34], reckoned here."""
    test.assertEqual(len(normal), len(wheel[0]))
    products = [product_sum(normal, spoke) for spoke in spokes_of(wheel, places)]
    test.assertTrue(min(products) >= 0 and max(products) > 0)


def is_told(found):
    return type(found) is list and {type(number) for number in found} <= {Ratio}


class PapersTest(unittest.TestCase, Wrong):
    def test_just_one_of_both_papers_for_each_lot(self):
        seen = {True: 0, False: 0}
        for at, wheel in enumerate(some_wheels()):
            for lot in some_lots(at, len(wheel), 48):
                numbers, normal = balance(wheel, lot), tipping(wheel, lot)
                self.assertEqual(numbers is None, normal is not None)
                self.assertIs(is_balanced(wheel, lot), normal is None)
                seen[normal is None] += 1
                if normal is None:
                    check_balance(self, wheel, lot, numbers)
                else:
                    check_tipping(self, wheel, lot, normal)
                self.assertTrue(is_told(numbers if normal is None else normal))
                self.assertIs(is_balance(wheel, lot, numbers), normal is None)
                self.assertIs(is_tipping(wheel, lot, normal), normal is not None)
        self.assertGreater(min(seen.values()), 500)

    def test_told_again_equal_and_new(self):
        for at, wheel in enumerate(some_wheels()[::3]):
            for lot in some_lots(at, len(wheel), 6):
                for function in LOTS:
                    self.check_new(function, wheel, lot)
            self.check_new(least_balanced, wheel)

    def test_what_is_passed_counts_by_its_worth(self):
        for at, wheel in enumerate(some_wheels()[::2]):
            other = told_otherwise(wheel)
            for lot in some_lots(at, len(wheel), 8):
                for function in LOTS:
                    self.assertEqual(function(other, tuple(lot)), function(wheel=wheel, places=lot))
                for paper in (balance(wheel, lot), tipping(wheel, lot)):
                    if paper is not None:
                        for judge in JUDGES:
                            self.assertIs(judge(other, tuple(lot), told_otherwise(paper)), judge(wheel, lot, paper))
            self.assertEqual(least_balanced(wheel=other), least_balanced(wheel))

    def test_nothing_and_all(self):
        for wheel in some_wheels():
            many = len(wheel)
            self.assertEqual([balance(wheel, []), tipping(wheel, []), is_balanced(wheel, ())], [[], None, True])
            self.assertIs(is_balanced(wheel, list(range(many))), True)
            self.assertIsNone(tipping(wheel, range_lot(many)))
            self.assertIs(is_balance(wheel, range_lot(many), [1] * many), True)
            self.assertIs(is_balance(wheel, range_lot(many), balance(wheel, range_lot(many))), True)

    def test_of_one_spoke_only_a_peak_balances(self):
        for wheel in some_wheels():
            for at, spoke in enumerate(wheel):
                bare = all(fraction(number) == 0 for number in spoke)
                self.assertIs(is_balanced(wheel, [at]), bare)
                self.assertIs(is_balance(wheel, [at], [Ratio(3, 7)]), bare)

    def test_the_kinds_of_lots(self):
        for lot in ([0, 4], [0, 3, 5], [2, 5, 6], [1], [0, 1, 4], [0, 2, 4, 6], [0, 2, 5, 6], [2, 3, 4, 5]):
            self.assertIs(is_balanced(SEVEN, lot), True, lot)
        for lot in ([0], [0, 1], [0, 2], [0, 4, 6], [2, 4, 6], [3, 4, 5, 6], [0, 2, 4], [0, 2, 5]):
            self.assertIs(is_balanced(SEVEN, lot), False, lot)
        self.assertEqual([is_balanced(RING, [0, 1]), is_balanced(RING, [0, 2]), is_balanced(RING, [1])], [True, False, False])

    def test_in_letters_the_same_lots_balance(self):
        for at, wheel in enumerate(some_wheels()[::3]):
            for table in some_tables(65 + at, len(wheel[0]), 2):
                lettered = in_letters(wheel, table)
                self.assertEqual(least_balanced(lettered), least_balanced(wheel))
                for lot in some_lots(at, len(wheel), 16):
                    self.assertIs(is_balanced(lettered, lot), is_balanced(wheel, lot))
                    self.assertIs(is_balance(lettered, lot, balance(wheel, lot)), is_balanced(wheel, lot))

    def test_answers_are_short(self):
        top, bottom = 999983, 999979
        wheel = [[Ratio(top - at * at, bottom - 3 * at), Ratio(top - 7 * at, bottom - at ** 3) * (-1) ** at] for at in range(8)]
        wheel = [[-wheel[0][0], wheel[0][1]]] + wheel[1:4] + [[-one, -other] for one, other in wheel[4:]]
        wheel.append([-Ratio.total([spoke[at] for spoke in wheel]) for at in range(2)])
        for lot in all_lots(9):
            self.assertLess(longest(balance(wheel, lot) or tipping(wheel, lot) or []), 200)


def range_lot(many):
    return list(range(many))


class JudgesTest(unittest.TestCase, Wrong):
    def test_balances(self):
        good = {"wheel": THREE, "places": [0, 2, 4]}
        yes = [[2, 2, 2], (1, 1, 1), [Ratio(1, 3)] * 3, (Ratio(5), 5, 5), [10 ** 40] * 3]
        no = [[1, 1, 2], [0, 0, 0], [-1, -1, -1], [2, 2], [2, 2, 2, 2], [True, True, True], [1, 1, True], ["1"] * 3, [],
              {0: 1, 1: 1, 2: 1}, "111", [[1], [1], [1]], [1, 1, None], b"111", {1}, [1, 2, 1], [2, 1, 1]]
        self.check_asked(is_balance, good, "value", True, yes)
        self.check_asked(is_balance, good, "value", False, no + any_kinds())
        self.check_asked(is_balance, {"wheel": THREE, "places": [0, 2]}, "value", False, yes + no + [[1, 1]] + any_kinds())

    def test_nothing_has_the_empty_balance(self):
        for wheel in (THREE, RING, FIVE):
            good = {"wheel": wheel, "places": []}
            self.check_asked(is_balance, good, "value", True, [[], ()])
            others = [value for value in any_kinds() if not isinstance(value, (list, tuple)) or value not in ([], ())]
            self.check_asked(is_balance, good, "value", False, others + [[0], [1], "", {}, set(), None])
            self.check_asked(is_tipping, good, "value", False, any_kinds() + [[1], [0], [1, 0], [0, 0]])

    def test_each_condition_of_a_balance_counts(self):
        self.assertIs(is_balance(SEVEN, [0, 1, 4], [2, 9, 2]), True)
        for value in ([2, 0, 2], [2, -1, 2], [-2, 9, -2], [0, 9, 0], [2, 9, 1]):
            self.assertIs(is_balance(SEVEN, [0, 1, 4], value), False)
        upright = [[0, 1], [0, 1], [0, -1], [0, -1], [1, 0], [1, 0], [-1, 0], [-1, 0]]
        self.assertIs(is_balance(upright, [0, 2], [1, 1]), True)
        self.assertIs(is_balance(upright, [0, 2], [1, 2]), False)
        self.assertIs(is_balance(upright, [4, 6], [3, 3]), True)
        self.assertIs(is_balance(upright, [4, 6], [3, 2]), False)
        self.assertIs(is_balance(RING, [0, 1, 2], [1, 3, 2]), True)
        self.assertIs(is_balance(RING, [0, 1, 2], [1, 1, 0]), False)

    def test_tippings(self):
        good = {"wheel": THREE, "places": [0, 2]}
        yes = [[1, 0], (0, 1), [1, 1], [Ratio(1, 9), 0], (10 ** 40, Ratio(2))]
        no = [[0, 0], [-1, 0], [1, -1], [-1, -1], [1], [1, 0, 0], [True, False], [1, False], ["1", "0"], [[1], [0]], "10", {1, 0},
              {0: 1, 1: 0}, [1, None], b"10", [], (1,)]
        self.check_asked(is_tipping, good, "value", True, yes)
        self.check_asked(is_tipping, good, "value", False, no + any_kinds())
        self.check_asked(is_tipping, dict(good, places=[0, 2, 4]), "value", False, yes + no + any_kinds())
        one = {"wheel": RING, "places": [1, 3]}
        self.check_asked(is_tipping, one, "value", True, [[-1], (Ratio(-1, 7),), [-5]])
        self.check_asked(is_tipping, one, "value", False, [[1], [0], [-1, -1], -1, [], [[-1]], [None], ["-1"], [True]])

    def test_a_level_normal_is_no_tipping(self):
        self.assertIs(is_tipping(THREE, [0, 1], [0, 1]), False)
        self.assertIs(is_tipping(THREE, [0, 1, 2], [0, 1]), True)
        self.assertIs(is_tipping(SEVEN, [1], [1, 0]), False)
        self.assertIs(is_tipping(SEVEN, [0, 4], [0, 1]), False)

    def test_judges_by_numbers_of_all_sorts(self):
        for wheel in (THREE, RING, FIVE, SEVEN):
            for lot in some_lots(7, len(wheel), 24):
                spokes = spokes_of(wheel, lot)
                for value in itertools.product((-1, 0, 1, 2), repeat=min(len(lot), 4)):
                    numbers = list(value) + [1] * (len(lot) - len(value))
                    sums = [product_sum(numbers, [spoke[at] for spoke in spokes]) for at in range(len(wheel[0]))]
                    wanted = all(number > 0 for number in numbers) and not any(sums)
                    self.assertIs(is_balance(wheel, lot, numbers), wanted)
                for normal in itertools.product((-2, -1, 0, 1, 2), repeat=len(wheel[0])):
                    products = [product_sum(normal, spoke) for spoke in spokes]
                    wanted = all(product >= 0 for product in products) and any(products)
                    self.assertIs(is_tipping(wheel, lot, list(normal)), wanted)


class LeastBalancedTest(unittest.TestCase, Wrong):
    def test_example(self):
        lots = [[one, other, third] for one in (0, 1) for other in (2, 3) for third in (4, 5)]
        self.assertEqual(least_balanced(THREE), lots)
        self.assertEqual(least_balanced(Body(SIX).wheel()), lots)
        self.assertEqual(Body(SIX).wheel(), [[Ratio(number) for number in spoke] for spoke in THREE])
        self.assertEqual(Body(SQUARE).wheel(), [[Ratio(1)], [Ratio(-1)], [Ratio(1)], [Ratio(-1)]])

    def test_some(self):
        self.assertEqual(least_balanced([[2], [0], [-1], [1], [-2]]), [[0, 2], [0, 4], [1], [2, 3], [3, 4]])
        self.assertEqual(least_balanced(SEVEN), [[0, 2, 6], [0, 3, 5], [0, 3, 6], [0, 4], [1], [2, 3, 5], [2, 4, 5], [2, 5, 6]])

    def test_by_all_lots(self):
        kinds_seen = set()
        for wheel in some_wheels():
            if len(wheel) <= 7:
                balanced = [lot for lot in all_lots(len(wheel)) if lot and is_balanced(wheel, lot)]
                least = [lot for lot in balanced if not any(set(other) < set(lot) for other in balanced)]
                told = least_balanced(wheel)
                self.assertEqual(told, sorted(least))
                self.assertTrue(all(type(lot) is list for lot in told))
                kinds_seen |= {(len(wheel[0]), len(lot)) for lot in told}
                self.check_joined(wheel, balanced, told)
        self.assertEqual(kinds_seen, {(1, 1), (1, 2), (2, 1), (2, 2), (2, 3)})

    def check_joined(self, wheel, balanced, least):
        """Lots that balance are just the joinings of least ones, and the sum of balances of these is a balance."""
        for lot in all_lots(len(wheel))[1:]:
            inner = [other for other in least if set(other) <= set(lot)]
            self.assertEqual({at for other in inner for at in other} == set(lot), lot in balanced)
            if lot in balanced:
                added = {at: 0 for at in lot}
                for other in inner:
                    for at, number in zip(other, balance(wheel, other)):
                        added[at] = added[at] + number
                self.assertIs(is_balance(wheel, lot, [added[at] for at in lot]), True)


class WrongCallsTest(unittest.TestCase, Wrong):
    def calls(self, wheel):
        for function in LOTS:
            yield function, {"wheel": wheel, "places": [0, 1]}
        for function in JUDGES:
            yield function, {"wheel": wheel, "places": [0, 1], "value": None}

    def test_wrong_wheels(self):
        for function, good in self.calls(RING):
            self.check_wrong(function, good, "wheel", InvalidWheel, NEARLY + kinds())
        self.check_wrong(least_balanced, {}, "wheel", InvalidWheel, NEARLY + kinds())
        self.assertIs(type(raised(least_balanced, [[], [], []])), InvalidWheel)

    def test_wrong_lots(self):
        for wheel in (RING, THREE):
            for function, good in self.calls(wheel):
                self.check_wrong(function, good, "places", InvalidPlaces, bad_lots(len(wheel)))

    def test_the_first_error_is_told(self):
        for function, good in self.calls(RING):
            self.check_first(function, good, {"wheel": RING[:3], "places": [9]}, [InvalidWheel, InvalidPlaces])
