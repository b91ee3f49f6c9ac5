"""Promises [4], [6], [9], [41] to [44]: faces, with the papers of both sides, and the least face that holds a lot."""
import itertools
import unittest

from fewcorners.balances import is_balance, is_balanced
from fewcorners.bodies import Body, moved, simplex
from fewcorners.corners import is_corner_form
from fewcorners.errors import InvalidBody, InvalidPlaces
from fewcorners.faces import face_form, holds_face, is_face, is_face_form, is_open_sum, open_sum
from fewcorners.ratios import Ratio
from fewcorners.sums import heights, is_form, is_sum
from tests.helpers import (Wrong, all_lots, any_kinds, bad_lots, fractions, heights_of, is_sum_of, kinds, longest, raised,
                           some_lots, told_otherwise)
from tests.samples import PENTAGON, PRISM, SIX, SQUARE, curved, flat, over, some_bodies

LOTS = (is_face, face_form, open_sum, holds_face)
JUDGES = (is_face_form, is_open_sum)


def others_of(many, lot):
    return [at for at in range(many) if at not in lot]


def is_face_form_of(points, lot, form):
    """A face form by the words of [42], reckoned here."""
    levels = heights_of(points, form)
    return all(level == 0 if at in lot else level > 0 for at, level in enumerate(levels))


def is_open_sum_of(points, lot, numbers):
    """An open sum by the words of [43], reckoned here."""
    told = fractions(numbers)
    outside = [told[at] for at in others_of(len(points), lot)]
    return is_sum_of(points, numbers) and all(number >= 0 for number in outside) and any(number > 0 for number in outside)


FOUND = {}


def faces_of(body):
    """All faces by their sizes, each one's form and each other lot's sum reckoned here; once for each body."""
    if repr(body) not in FOUND:
        FOUND[repr(body)] = reckoned_faces(body)
    return [list(lot) for lot in FOUND[repr(body)]]


def reckoned_faces(body):
    points = body.points()
    found = []
    for lot in all_lots(len(points)):
        form, numbers = face_form(body, lot), open_sum(body, lot)
        assert (form is None) != (numbers is None)
        assert is_open_sum_of(points, lot, numbers) if form is None else is_face_form_of(points, lot, form)
        if form is not None:
            found.append(lot)
    return found


class PapersTest(unittest.TestCase, Wrong):
    def test_just_one_of_both_papers_for_each_lot(self):
        seen = {True: 0, False: 0}
        for at, body in enumerate(some_bodies()):
            points = body.points()
            for lot in some_lots(at, body.many, 64):
                form, numbers = face_form(body, lot), open_sum(body, lot)
                self.assertEqual(form is None, numbers is not None)
                self.assertIs(is_face(body, lot), numbers is None)
                seen[numbers is None] += 1
                if numbers is None:
                    self.assertIs(is_form(points, form), True)
                    self.assertTrue(is_face_form_of(points, lot, form))
                    self.assertEqual([type(form), type(form[0]), type(form[1])], [tuple, list, Ratio])
                    self.assertEqual({type(number) for number in form[0]}, {Ratio})
                else:
                    self.assertIs(is_sum(points, numbers), True)
                    self.assertTrue(is_open_sum_of(points, lot, numbers))
                    self.assertEqual([type(numbers), {type(number) for number in numbers}], [list, {Ratio}])
                self.assertIs(is_face_form(body, lot, form), numbers is None)
                self.assertIs(is_open_sum(body, lot, numbers), numbers is not None)
        self.assertGreater(min(seen.values()), 500)

    def test_a_lot_is_a_face_exactly_if_the_spokes_of_all_others_balance(self):
        for at, body in enumerate(some_bodies()):
            wheel = body.wheel()
            for lot in some_lots(at + 100, body.many, 24):
                if body.excess == 0:
                    self.assertIs(is_face(body, lot), True)
                else:
                    others = others_of(body.many, lot)
                    self.assertIs(is_face(body, lot), is_balanced(wheel, others))
                    form = face_form(body, lot)
                    if form is not None:
                        levels = heights(body.points(), form)
                        self.assertIs(is_balance(wheel, others, [levels[other] for other in others]), True)

    def test_nothing_each_corner_and_all_are_faces(self):
        for body in some_bodies():
            everything = list(range(body.many))
            for lot in [[], everything] + [[at] for at in everything]:
                self.assertIs(is_face(body, lot), True)
                self.assertIsNone(open_sum(body, tuple(lot)))
            self.assertTrue(all(level == 0 for level in heights_of(body.points(), face_form(body, everything))))
            for at in everything:
                self.assertIs(is_corner_form(body.points(), at, face_form(body, [at])), True)

    def test_told_again_equal_and_new(self):
        for at, body in enumerate(some_bodies()):
            for lot in some_lots(at + 200, body.many, 4):
                for function in LOTS:
                    self.check_new(function, body, lot)

    def test_what_is_passed_counts_by_its_worth(self):
        for at, body in enumerate(some_bodies()):
            other = Body(told_otherwise(body.points()))
            for lot in some_lots(at + 300, body.many, 6):
                for function in LOTS:
                    self.assertEqual(function(other, tuple(lot)), function(body=body, places=lot))
                for paper in (face_form(body, lot), open_sum(body, lot)):
                    if paper is not None:
                        for judge in JUDGES:
                            self.assertIs(judge(other, tuple(lot), told_otherwise(paper)), judge(body, lot, paper))

    def test_moved_bodies_have_the_same_faces(self):
        for rows, shift in (([[1, 2, 0], [0, 1, 5], [3, 0, Ratio(1, 2)]], [7, 0, -1]),
                            ([[1, 0, 0, 2], [0, 1, 0, 2], [0, 0, 1, 2]], [0] * 4)):
            for points in (SIX, PRISM, over(SQUARE), over(PENTAGON), curved(6, 3)):
                body = Body(points)
                self.assertEqual(faces_of(moved(body, rows, shift)), faces_of(body))
        self.assertEqual(faces_of(Body(flat(PRISM, 3))), faces_of(Body(PRISM)))

    def test_papers_are_short(self):
        points = [[Ratio(at ** power * 999983 + 1, 999979 - at * 7 - power) for power in range(1, 7)] for at in range(9)]
        body = Body(points)
        self.assertEqual([body.many, body.size, body.excess], [9, 6, 2])
        seen = set()
        for lot in some_lots(11, 9, 60):
            form, numbers = face_form(body, lot), open_sum(body, lot)
            self.assertLess(longest([[] if form is None else [*form[0], form[1]], numbers or []]), 2000)
            self.assertTrue(is_open_sum_of(points, lot, numbers) if form is None else is_face_form_of(points, lot, form))
            seen.add(form is None)
        self.assertEqual(seen, {True, False})


class SomeFacesTest(unittest.TestCase, Wrong):
    def test_of_a_simplex_each_lot_is_a_face(self):
        for many in range(2, 8):
            self.assertEqual(faces_of(simplex(many)), all_lots(many))

    def test_faces_of_bodies_that_can_be_seen(self):
        ring = [[at, (at + 1) % 4] for at in range(4)]
        self.assertEqual(faces_of(Body(SQUARE)), [[]] + [[at] for at in range(4)] + sorted(map(sorted, ring)) + [[0, 1, 2, 3]])
        sides = [sorted([at, (at + 1) % 5]) for at in range(5)]
        self.assertEqual(faces_of(Body(PENTAGON)), [[]] + [[at] for at in range(5)] + sorted(sides) + [list(range(5))])
        free = [lot for lot in all_lots(6) if not any({at, at + 1} <= set(lot) for at in (0, 2, 4))]
        self.assertEqual(faces_of(Body(SIX)), free + [list(range(6))])
        told = [[], [0], [1], [2], [3], [4], [5], [0, 1], [0, 2], [0, 3], [1, 2], [1, 4], [2, 5], [3, 4], [3, 5],
                [4, 5], [0, 1, 2],
                [3, 4, 5], [0, 1, 3, 4], [0, 2, 3, 5], [1, 2, 4, 5], [0, 1, 2, 3, 4, 5]]
        self.assertEqual(faces_of(Body(PRISM)), told)

    def test_of_a_body_on_a_curve_each_pair_is_a_face(self):
        body = Body(curved(7, 4))
        for pair in itertools.combinations(range(7), 2):
            self.assertIs(is_face(body, list(pair)), True)
        self.assertIs(is_face(body, [0, 2, 4]), False)

    def test_across_a_square(self):
        body = Body(SQUARE)
        for lot in ([0, 2], [1, 3], [0, 1, 2], [1, 2, 3]):
            self.assertEqual([is_face(body, lot), face_form(body, lot)], [False, None])
            self.assertIs(is_open_sum(body, lot, open_sum(body, lot)), True)
        self.assertIs(is_open_sum(body, [0, 2], [-1, 1, -1, 1]), True)


class HeldTest(unittest.TestCase, Wrong):
    def test_the_least_of_all_faces_that_hold_the_lot(self):
        for body in some_bodies():
            if body.many <= 7:
                found = faces_of(body)
                for lot in all_lots(body.many):
                    holding = [set(face) for face in found if set(lot) <= set(face)]
                    told = holds_face(body, lot)
                    self.assertEqual(told, sorted(set.intersection(*holding)))
                    self.assertIn(told, found)
                    self.assertEqual([type(told), {type(at) for at in told} <= {int}], [list, True])

    def test_what_two_faces_share_is_a_face(self):
        for points in (SQUARE, PRISM, SIX, over(SQUARE), curved(6, 4)):
            found = faces_of(Body(points))
            for one, other in itertools.combinations(found, 2):
                self.assertIn(sorted(set(one) & set(other)), found)

    def test_some(self):
        square, prism, tent = Body(SQUARE), Body(PRISM), Body(over(SQUARE))
        self.assertEqual([holds_face(square, []), holds_face(square, [2]), holds_face(square, (1, 3))], [[], [2], [0, 1, 2, 3]])
        self.assertEqual([holds_face(prism, [0, 4]), holds_face(prism, [0, 1]), holds_face(prism, [0, 1, 5])],
                         [[0, 1, 3, 4], [0, 1], [0, 1, 2, 3, 4, 5]])
        self.assertEqual([holds_face(tent, [0, 2]), holds_face(tent, [0, 4]), holds_face(tent, [0, 2, 4])],
                         [[0, 1, 2, 3], [0, 4], [0, 1, 2, 3, 4]])
        self.assertEqual(holds_face(simplex(9), [1, 4, 8]), [1, 4, 8])


class JudgesTest(unittest.TestCase, Wrong):
    def test_face_forms(self):
        good = {"body": Body(SQUARE), "places": [0, 1]}
        yes = [([0, 3], 0), ((0, Ratio(1, 7)), Ratio(0)), ([Ratio(0), 10 ** 40], 0)]
        no = [([0, -3], 0), ([0, 3], 1), ([0, 0], 0), ([1, 3], 0), ([1, 1], 0), ([0, 3, 0], 0), ([3], 0), [[0, 3], 0], ([0, 3],),
              ([0, 3], 0, 0), ([False, 3], 0), ([0, 3], False), ([0, True], 0), ("03", 0), ([0, "3"], 0),
              ({0: 0, 1: 3}, 0), ([0, 3], None)]
        self.check_asked(is_face_form, good, "value", True, yes)
        self.check_asked(is_face_form, good, "value", False, no + any_kinds())
        self.check_asked(is_face_form, dict(good, places=[0]), "value", False, yes + no[:3] + no[5:] + any_kinds())
        self.check_asked(is_face_form, dict(good, places=[0]), "value", True, no[3:5])
        self.check_asked(is_face_form, dict(good, places=[0, 2]), "value", False, yes + no + any_kinds())
        self.check_asked(is_face_form, dict(good, places=()), "value", True, [([0, 0], 1), ([1, 1], 1), ((0, 1), Ratio(1, 2))])
        self.check_asked(is_face_form, dict(good, places=()), "value", False, yes + [([0, 0], 0), ([0, 0], -1)] + any_kinds())

    def test_of_all_corners_each_form_with_no_height_is_one(self):
        everything = {"body": Body(SQUARE), "places": [0, 1, 2, 3]}
        self.check_asked(is_face_form, everything, "value", True, [([0, 0], 0), ((Ratio(0), 0), Ratio(0))])
        self.check_asked(is_face_form, everything, "value", False, [([0, 0], 1), ([0, 3], 0), ([0], 0), [[0, 0],
                                                                                                         0]] + any_kinds())
        lying = {"body": Body([[0, 0, 5], [1, 0, 6], [1, 1, 7], [0, 1, 6]]), "places": (0, 1, 2, 3)}
        self.check_asked(is_face_form, lying, "value", True, [([0, 0, 0], 0), ([1, 1, -1], 5), ((-2, -2, 2), -10)])
        self.check_asked(is_face_form, lying, "value", False, [([1, 1, -1], 4), ([1, 0, 0], 0)])
        self.assertIs(is_face_form(lying["body"], [0, 1], ([1, 2, -1], 5)), True)

    def test_open_sums(self):
        good = {"body": Body(SQUARE), "places": [0, 2]}
        yes = [[-1, 1, -1, 1], (-2, 2, -2, 2), [Ratio(-1, 3), Ratio(1, 3), Ratio(-1, 3), Ratio(1, 3)]]
        no = [[1, -1, 1, -1], [0, 0, 0, 0], [-1, 1, -1], [-1, 1, -1, 1, 0], [-1, 1, -1, 2], [-1, True, -1, True],
              [-1, 1, -1, "1"],
              {0: -1, 1: 1, 2: -1, 3: 1}, [[-1, 1, -1, 1]], [0, 1, 0, -1], [0, 1, -2, 1], [-1, 1, -1, None]]
        self.check_asked(is_open_sum, good, "value", True, yes)
        self.check_asked(is_open_sum, good, "value", False, no + any_kinds())
        self.check_asked(is_open_sum, dict(good, places=[0, 1]), "value", False, yes + no + [[1, -1, 1, -1]] + any_kinds())
        self.check_asked(is_open_sum, dict(good, places=[1, 3]), "value", True, [[1, -1, 1, -1]])
        self.check_asked(is_open_sum, dict(good, places=[0, 1, 2]), "value", True, yes)
        self.check_asked(is_open_sum, dict(good, places=[0, 1, 2, 3]), "value", False, yes + no + any_kinds())

    def test_a_sum_with_noughts_outside_is_none(self):
        body = Body(SIX)
        self.assertIs(is_open_sum(body, [0, 1], [-1, -1, 1, 1, 0, 0]), True)
        self.assertIs(is_open_sum(body, [0, 1, 2, 3], [-1, -1, 1, 1, 0, 0]), False)
        self.assertIs(is_open_sum(body, [0, 1, 2, 3], [-1, -1, 0, 0, 1, 1]), True)
        self.assertIs(is_open_sum(body, [0, 1], [-1, -1, 2, 2, -1, -1]), False)
        self.assertIs(is_open_sum(body, [0, 2], [-1, -1, 1, 1, 0, 0]), False)

    def test_judges_by_papers_of_other_lots(self):
        for points in (SQUARE, PENTAGON, SIX, PRISM, over(SQUARE), curved(6, 4)):
            body = Body(points)
            lots = some_lots(12, body.many, 20)
            papers = [(face_form(body, lot), open_sum(body, lot)) for lot in lots]
            for lot in lots:
                for form, numbers in papers:
                    self.assertIs(is_face_form(body, lot, form), form is not None and is_face_form_of(points, lot, form))
                    wanted = numbers is not None and is_open_sum_of(points, lot, numbers)
                    self.assertIs(is_open_sum(body, lot, numbers), wanted)


class WrongCallsTest(unittest.TestCase, Wrong):
    def calls(self, body):
        for function in LOTS:
            yield function, {"body": body, "places": [0, 1]}
        for function in JUDGES:
            yield function, {"body": body, "places": [0, 1], "value": None}

    def test_wrong_bodies(self):
        for function, good in self.calls(Body(SQUARE)):
            self.check_wrong(function, good, "body", InvalidBody, kinds() + [SQUARE, (Body(SQUARE),), "Body", Body])

    def test_wrong_lots(self):
        for body in (Body(SQUARE), simplex(2), Body(SIX)):
            for function, good in self.calls(body):
                self.check_wrong(function, good, "places", InvalidPlaces, bad_lots(body.many))

    def test_the_first_error_is_told(self):
        for function, good in self.calls(Body(SQUARE)):
            self.check_first(function, good, {"body": SQUARE, "places": [9]}, [InvalidBody, InvalidPlaces])
        self.assertEqual(raised(is_face, Body(SQUARE), [0, 4]).value, [0, 4])
