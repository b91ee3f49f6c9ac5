"""Promise [64]: corners that can be exchanged, and their classes."""
import itertools
import unittest

from fewcorners.bodies import Body, simplex
from fewcorners.errors import InvalidBody, InvalidPlace
from fewcorners.likeness import is_alike
from fewcorners.ratios import Ratio
from fewcorners.twins import are_twins, twins
from fewcorners.wheels import peaks
from fewcorners.words import runs
from tests.helpers import Wrong, bad_places, kinds, told_otherwise
from tests.samples import BIPYRAMID, PENTAGON, PRISM, SIX, SQUARE, beside_one_another, curved, over, some_bodies
from tests.test_likeness import made_bodies


def exchanged(many, one, other):
    return [{one: other, other: one}.get(at, at) for at in range(many)]


class TwinsTest(unittest.TestCase, Wrong):
    def test_twins_are_those_that_can_be_exchanged(self):
        seen = set()
        for body in some_bodies() + made_bodies(5) + made_bodies(6):
            many = body.many
            classes = self.check_new(twins, body)
            self.assertEqual(sorted(at for lot in classes for at in lot), list(range(many)))
            self.assertEqual([classes, twins(body=body)], [sorted(sorted(lot) for lot in classes if lot), classes])
            self.assertTrue(all(type(lot) is list for lot in classes) and type(classes) is list)
            for one, other in itertools.combinations_with_replacement(range(many), 2):
                wanted = is_alike(body, body, exchanged(many, one, other))
                self.assertIs(are_twins(body, one, other), wanted)
                self.assertIs(are_twins(second=one, place=other, body=body), wanted)
                self.assertEqual(any(one in lot and other in lot for lot in classes), wanted)
                seen.add(wanted)
        self.assertEqual(seen, {True, False})

    def test_peaks_and_runs(self):
        for body in some_bodies():
            if body.excess:
                wheel = body.wheel()
                self.assertEqual(twins(body), sorted(lot for lot in [peaks(wheel)] + runs(wheel) if lot))

    def test_some(self):
        self.assertEqual(twins(Body(SQUARE)), [[0, 2], [1, 3]])
        self.assertEqual(twins(Body(PENTAGON)), [[0], [1], [2], [3], [4]])
        self.assertEqual(twins(Body(SIX)), [[0, 1], [2, 3], [4, 5]])
        self.assertEqual(twins(Body(PRISM)), [[0], [1], [2], [3], [4], [5]])
        self.assertEqual(twins(Body(BIPYRAMID)), [[0, 1, 2], [3, 4]])
        self.assertEqual(twins(Body(over(over(PENTAGON)))), [[0], [1], [2], [3], [4], [5, 6]])
        self.assertEqual(twins(Body(over(SQUARE)[::-1])), [[0], [1, 3], [2, 4]])
        self.assertEqual(twins(Body(beside_one_another(SQUARE, SQUARE))), [[0, 2], [1, 3], [4, 6], [5, 7]])
        self.assertEqual(twins(Body(curved(6, 4))), [[0, 2, 4], [1, 3, 5]])

    def test_in_a_simplex_all_are_twins(self):
        for many in range(2, 10):
            self.assertEqual(twins(simplex(many)), [list(range(many))])
        self.assertIs(are_twins(simplex(9), 0, 8), True)

    def test_what_is_passed_counts_by_its_worth(self):
        for body in some_bodies():
            self.assertEqual(twins(Body(told_otherwise(body.points()))), twins(body))


class WrongCallsTest(unittest.TestCase, Wrong):
    def test_wrong_values(self):
        bodies = kinds() + [SQUARE, [Body(SQUARE)], Body]
        self.check_wrong(twins, {}, "body", InvalidBody, bodies)
        good = {"body": Body(SQUARE), "place": 0, "second": 1}
        self.check_wrong(are_twins, good, "body", InvalidBody, bodies)
        for name in ("place", "second"):
            self.check_wrong(are_twins, good, name, InvalidPlace, bad_places(4))
        self.check_wrong(are_twins, dict(good, body=simplex(2)), "second", InvalidPlace, [2, 3, Ratio(1), True])

    def test_the_first_error_is_told(self):
        self.check_first(are_twins, {"body": Body(SQUARE), "place": 0, "second": 1}, {"body": SQUARE, "place": 4, "second": -1},
                         [InvalidBody, InvalidPlace, InvalidPlace])
