"""Promises [8], [51]: beams in turn, and which of them are opposite."""
import itertools
import unittest

from fewcorners.beams import beams, opposites
from fewcorners.bodies import Body
from fewcorners.errors import InvalidWheel
from fewcorners.ratios import Ratio
from fewcorners.wheels import in_letters, peaks
from tests.helpers import Wrong, fractions, kinds, raised, told_otherwise
from tests.samples import PENTAGON, PRISM, SIX, some_wheels
from tests.test_wheels import FIVE, NEARLY, RING, THREE

MANY = [[1, 0], [0, -1], [0, 1], [-1, 0], [-1, -1], [1, 1]]


def flat(spoke):
    """A spoke as two fractions."""
    return (fractions(spoke) + [0])[:2]


def cross(one, other):
    return one[0] * other[1] - one[1] * other[0]


def dot(one, other):
    return one[0] * other[0] + one[1] * other[1]


def on_one_beam(one, other):
    return cross(one, other) == 0 and dot(one, other) > 0


def turn_of(first, other):
    """How far it is from the first direction against the clock to the other one: a number that rises with the turn."""
    along, aside = dot(first, other), cross(first, other)
    quarter = [along > 0 and aside >= 0, along <= 0 and aside > 0, along < 0 and aside <= 0, True].index(True)
    along, aside = [(along, aside), (aside, -along), (-along, -aside), (-aside, along)][quarter]
    # In each quarter the part of the way aside rises from 0 to 1.
    return quarter + aside / (along + aside)


class BeamsTest(unittest.TestCase, Wrong):
    def test_spokes_of_one_beam_are_multiples_by_numbers_above_0(self):
        for wheel in some_wheels():
            spokes = [flat(spoke) for spoke in wheel]
            told = self.check_new(beams, wheel)
            placed = [at for lot in told for at in lot]
            self.assertEqual(sorted(placed + peaks(wheel)), list(range(len(wheel))))
            self.assertEqual(len(set(placed)), len(placed))
            for lot in told:
                self.assertTrue(lot and lot == sorted(lot) and type(lot) is list)
            for one, other in itertools.combinations(placed, 2):
                together = any(one in lot and other in lot for lot in told)
                self.assertEqual(together, on_one_beam(spokes[one], spokes[other]))

    def test_the_beam_with_the_least_position_is_the_first_one_and_the_others_stand_against_the_clock(self):
        for wheel in some_wheels():
            told = beams(wheel)
            spokes = [flat(spoke) for spoke in wheel]
            self.assertEqual(told[0][0], min(at for lot in told for at in lot))
            turns = [turn_of(spokes[told[0][0]], spokes[lot[0]]) for lot in told]
            self.assertEqual(turns[0], 0)
            self.assertTrue(all(one < other for one, other in zip(turns, turns[1:])), (wheel, told))
            self.assertEqual(len(told), 2) if len(wheel[0]) == 1 else self.assertGreaterEqual(len(told), 3)

    def test_some(self):
        self.assertEqual(beams(MANY), [[0], [5], [2], [3], [4], [1]])
        self.assertEqual(beams(MANY[::-1]), [[0], [3], [2], [1], [4], [5]])
        self.assertEqual(beams(THREE), [[0, 1], [2, 3], [4, 5]])
        self.assertEqual(beams(RING), [[0, 2], [1, 3]])
        self.assertEqual(beams([[0], [-2], [3], [-1], [1], [-1]]), [[1, 3, 5], [2, 4]])
        self.assertEqual(beams([[0, 0], [-1, -1], [0, 3], [3, 0], [-2, -2], [0, 1], [1, 0], [-1, -1]]),
                         [[1, 4, 7], [3, 6], [2, 5]])
        self.assertEqual(beams(FIVE), [[0], [4], [1], [2], [3]])
        fractional = [[Ratio(1, 2), 0], [Ratio(1, 3), 0], [0, 2], [0, Ratio(1, 7)], [Ratio(-1, 3), Ratio(-6, 7)]]
        self.assertEqual(beams(fractional + [[Ratio(-1, 2), Ratio(-9, 7)]]), [[0, 1], [2, 3], [4, 5]])

    def test_a_mirrored_wheel_has_its_beams_the_other_way_round(self):
        for wheel in some_wheels():
            if len(wheel[0]) == 2:
                told = beams(wheel)
                self.assertEqual(beams(in_letters(wheel, [[1, 0], [0, -1]])), told[:1] + told[:0:-1])
                self.assertEqual(beams(in_letters(wheel, [[0, 1], [1, 0]])), told[:1] + told[:0:-1])
                self.assertEqual(beams(in_letters(wheel, [[2, 1], [3, 5]])), told)

    def test_what_is_passed_counts_by_its_worth(self):
        for wheel in some_wheels():
            other = told_otherwise(wheel)
            self.assertEqual([beams(other), opposites(other)], [beams(wheel=wheel), opposites(wheel=wheel)])


class OppositesTest(unittest.TestCase, Wrong):
    def test_opposite_beams_are_multiples_by_numbers_below_0(self):
        seen = set()
        for wheel in some_wheels():
            spokes = [flat(spoke) for spoke in wheel]
            found = beams(wheel)
            wanted = [(one, other) for one in found for other in found if one[0] < other[0]
                      and cross(spokes[one[0]], spokes[other[0]]) == 0 and dot(spokes[one[0]], spokes[other[0]]) < 0]
            told = self.check_new(opposites, wheel)
            self.assertEqual(told, sorted(wanted))
            self.assertTrue(all(type(pair) is tuple and len(pair) == 2 for pair in told))
            seen.add((len(wheel[0]), len(told)))
        self.assertLessEqual({(1, 1), (2, 0), (2, 1), (2, 2), (2, 3)}, seen)

    def test_some(self):
        self.assertEqual(opposites(MANY), [([0], [3]), ([1], [2]), ([4], [5])])
        self.assertEqual(opposites(RING), [([0, 2], [1, 3])])
        self.assertEqual(opposites([[-1], [0], [-1], [2]] + [[1], [-1]]), [([0, 2, 5], [3, 4])])
        self.assertEqual([opposites(THREE), opposites(FIVE)], [[], []])
        self.assertEqual(opposites(Body(SIX).wheel()), [])
        self.assertEqual(opposites(Body(PENTAGON).wheel()), [])
        self.assertEqual(len(opposites(Body(PRISM).wheel())), 3)

    def test_wrong_wheels(self):
        for function in (beams, opposites):
            self.check_wrong(function, {}, "wheel", InvalidWheel, NEARLY + kinds())
            self.assertEqual(raised(function, [[], []]).value, [[], []])
