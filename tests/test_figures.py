"""Promises [75], [76]: faces as bodies, corners around, figures and their faces."""
import random
import unittest
from fractions import Fraction

from fewcorners.bodies import Body, moved, simplex
from fewcorners.errors import InvalidBody, InvalidPlace, InvalidPlaces, NotCorner, NotFace, TooFew
from fewcorners.faces import is_face
from fewcorners.figures import around, face_body, figure, figure_face
from fewcorners.lists import edges
from fewcorners.makes import body_by, pyramid, wheel_by
from fewcorners.ratios import Ratio
from tests.helpers import (Wrong, all_lots, bad_lots, bad_places, fraction, fractions, kinds, longest, raised, rank, some_lots,
                           told_otherwise)
from tests.samples import BIPYRAMID, PENTAGON, PRISM, SIX, SQUARE, beside_one_another, curved, flat, over, some_bodies
from tests.test_faces import faces_of
from tests.test_lists import small_bodies
from tests.test_words import words_of

TENT = Body(over(SQUARE))


def solved(rows):
    """Numbers by which each row but its last number, added up, comes to its last number; None if there are none."""
    rows = [fractions(row) for row in rows]
    wide = len(rows[0]) - 1
    heads = []
    for column in range(wide):
        found = [at for at in range(len(heads), len(rows)) if rows[at][column]]
        if found:
            to = len(heads)
            rows[to], rows[found[0]] = rows[found[0]], rows[to]
            rows[to] = [number / rows[to][column] for number in rows[to]]
            for at in range(len(rows)):
                if at != to:
                    rows[at] = [mine - rows[at][column] * its for mine, its in zip(rows[at], rows[to])]
            heads.append(column)
    if any(row[-1] for row in rows[len(heads):]):
        return None
    return [rows[heads.index(column)][-1] if column in heads else Fraction(0) for column in range(wide)]


def lengths_of(corner, others, found):
    """By how much the way from the corner to each of the others is longer or shorter than that to the found point."""
    answer = []
    for point, image in zip(others, found):
        ways = [(fraction(its) - fraction(mine), fraction(to) - fraction(mine)) for mine, its, to in zip(corner, point, image)]
        times = {to / way for way, to in ways if way}
        assert len(times) == 1 and all(way or not to for way, to in ways)
        answer.append(times.pop())
    return answer


def is_figure_of(body, place, found):
    """Whether a Body is a figure by the words of [76], reckoned here."""
    points, others = body.points(), around(body, place)
    image = found.points()
    if len(image) != len(others):
        return False
    lengths = lengths_of(points[place], [points[at] for at in others], image)
    # The form of the height 1 at the found points has these heights at the corners around.
    levels = [[*points[place], 1, 0]] + [[*points[at], 1, 1 / times] for at, times in zip(others, lengths)]
    form = solved(levels)
    if form is None or min(lengths) <= 0:
        return False
    heights = [sum(fraction(number) * times for number, times in zip([*point, 1], form)) for point in points]
    here = [sum(fraction(number) * times for number, times in zip([*point, 1], form)) for point in image]
    return heights[place] == 0 and set(here) == {1} and all(heights[at] > 0 for at in range(body.many) if at != place)


def faces_at(body, place):
    """The faces through a corner, each as the lot of those around that it holds, by their positions there."""
    others = around(body, place)
    return sorted([others.index(at) for at in lot if at in others] for lot in faces_of(body) if place in lot)


class FaceBodyTest(unittest.TestCase, Wrong):
    def test_points_and_faces(self):
        seen = set()
        for body in small_bodies():
            points = body.points()
            for lot in faces_of(body):
                if len(lot) > 1:
                    told = face_body(body, lot)
                    self.assertIs(type(told), Body)
                    self.assertEqual(told.points(), [points[at] for at in lot])
                    self.assertLessEqual(told.excess, body.excess)
                    seen.add((body.excess, told.excess))
        self.assertEqual(seen, {(one, other) for one in range(3) for other in range(one + 1)})

    def test_its_faces_are_those_that_lie_in_it(self):
        for points in (SQUARE, PENTAGON, SIX, PRISM, over(SQUARE), BIPYRAMID, curved(6, 4), over(PENTAGON)):
            body = Body(points)
            for lot in faces_of(body):
                if len(lot) > 1:
                    wanted = [[lot.index(at) for at in found] for found in faces_of(body) if set(found) <= set(lot)]
                    self.assertEqual(sorted(faces_of(face_body(places=tuple(lot), body=body))), sorted(wanted))

    def test_some(self):
        self.assertEqual(face_body(TENT, [0, 1, 2, 3]), Body([point + [0] for point in SQUARE]))
        self.assertEqual([face_body(TENT, [0, 1, 2, 3]).size, face_body(TENT, [0, 1, 4]).size, face_body(TENT, [0, 4]).size],
                         [2, 2, 1])
        for body in some_bodies():
            self.assertEqual(face_body(body, list(range(body.many))), body)
        self.assertEqual(face_body(simplex(2), [0, 1]), simplex(2))

    def test_faces_of_less_than_two_corners(self):
        for body in (Body(SQUARE), simplex(2), simplex(9), TENT, Body(PRISM)):
            for lot in [[], ()] + [[at] for at in range(body.many)]:
                for told in (raised(face_body, body, lot), raised(face_body, body=body, places=lot)):
                    self.assertIs(type(told), TooFew)

    def test_no_faces(self):
        for points in (SQUARE, PRISM, SIX, over(SQUARE), BIPYRAMID):
            body = Body(points)
            found = faces_of(body)
            for lot in all_lots(body.many):
                if lot not in found:
                    for told in (raised(face_body, body, lot), raised(face_body, body=body, places=tuple(lot))):
                        self.assertIs(type(told), NotFace)

    def test_wrong_values(self):
        good = {"body": Body(SQUARE), "places": [0, 1]}
        self.check_wrong(face_body, good, "body", InvalidBody, kinds() + [SQUARE, [Body(SQUARE)], Body])
        self.check_wrong(face_body, good, "places", InvalidPlaces, bad_lots(4))
        self.check_first(face_body, good, {"body": SQUARE, "places": [2, 0]}, [InvalidBody, InvalidPlaces])


class AroundTest(unittest.TestCase, Wrong):
    def test_the_other_ends_of_edges(self):
        seen = set()
        for body in some_bodies():
            found = edges(body)
            for place in range(body.many):
                told = self.check_new(around, body, place)
                self.assertEqual(told, [at for at in range(body.many) if tuple(sorted([at, place])) in found and at != place])
                self.assertEqual({type(at) for at in told}, {int})
                self.assertEqual(around(place=place, body=body), told)
                self.assertGreaterEqual(len(told), body.size)
                seen.add(len(told) == body.many - 1)
        self.assertEqual(seen, {True, False})

    def test_some(self):
        self.assertEqual([around(Body(SQUARE), 0), around(TENT, 4), around(TENT, 0), around(Body(SIX), 0),
                          around(Body(PRISM), 2)],
                         [[1, 3], [0, 1, 2, 3], [1, 3, 4], [2, 3, 4, 5], [0, 1, 5]])
        self.assertEqual([around(simplex(2), 0), around(simplex(2), 1), around(simplex(4), 2)], [[1], [0], [0, 1, 3]])
        self.assertEqual(around(Body(curved(7, 4)), 3), [0, 1, 2, 4, 5, 6])


class FigureTest(unittest.TestCase, Wrong):
    def check_figure(self, body, place):
        told = figure(body, place)
        self.assertIs(type(told), Body)
        self.assertTrue(is_figure_of(body, place, told))
        self.assertEqual([told.many, told.size], [len(around(body, place)), body.size - 1])
        self.assertEqual({len(point) for point in told.points()}, {len(body.points()[0])})
        self.assertLessEqual(told.excess, body.excess)
        self.assertGreaterEqual(told.many, body.size)
        self.assertEqual(figure(place=place, body=body), told)
        self.assertLess(max(longest(told.points()), longest(told.wheel())), 2000)
        return told

    def test_it_is_one_and_has_the_faces_through_the_corner(self):
        seen = set()
        for body in some_bodies():
            for place in range(body.many):
                if body.size > 1:
                    told = self.check_figure(body, place)
                    seen.add((body.excess, told.excess, told.many == body.size))
                    if body.many < 7:
                        self.assertEqual(sorted(faces_of(told)), faces_at(body, place))
        self.assertEqual({(one, other) for one, other, _ in seen},
                         {(one, other) for one in range(3) for other in range(one + 1)})
        self.assertEqual({few for _, _, few in seen}, {True, False})

    def test_of_a_simplex_its_own_points_will_do(self):
        """So its numbers stay as short as they are, through figures of figures too."""
        for points in ([[Ratio(1, 2), 0], [0, Ratio(1, 3)], [-1, -1]], [[0, 0, 7], [1, 2, 3], [4, 5, 9]]):
            self.assertLessEqual(longest(figure(Body(points), 0).points()), longest(points))

    def test_of_bodies_of_all_words(self):
        for many in (5, 6, 7):
            for told in words_of(many)[::many - 4]:
                if told[1]:
                    body = body_by(wheel_by(told))
                    for place in range(0, many, 2):
                        self.check_figure(body, place)

    def test_some(self):
        self.assertEqual([figure(TENT, 4).many, figure(TENT, 4).excess, figure(TENT, 0).many, figure(TENT, 0).size],
                         [4, 1, 3, 2])
        self.assertEqual([figure(Body(SIX), 0).many, figure(Body(SIX), 0).excess], [4, 1])
        self.assertEqual([figure(Body(PENTAGON), 3).many, figure(Body(PENTAGON), 3).size], [2, 1])
        self.assertEqual([figure(pyramid(Body(PENTAGON)), 5).many, figure(pyramid(Body(PENTAGON)), 5).excess], [5, 2])
        self.assertEqual([figure(simplex(9), 0).many, figure(simplex(3), 2).size], [8, 1])
        self.assertEqual([figure(Body(flat(SQUARE, 6)), 1).size, len(figure(Body(flat(SQUARE, 6)), 1).points()[0])], [1, 8])

    def test_what_is_passed_counts_by_its_worth(self):
        for body in some_bodies()[::3]:
            if body.size > 1:
                self.assertEqual(figure(Body(told_otherwise(body.points())), 1), figure(body, 1))

    def test_long_numbers_and_figures_of_figures(self):
        chance = random.Random(91)
        for many, wide, least in ((9, 8, 7), (9, 7, 3), (9, 6, 2), (8, 5, 1), (7, 4, 1), (6, 3, 1)):
            body = None
            while body is None:
                points = [[Ratio(chance.randint(-999999, 999999), chance.randint(100000, 999999)) for _ in range(wide)]
                          for _ in range(many)]
                body = None if type(raised(Body, points)) is NotCorner else Body(points)
            steps = 0
            while body.size > 1 and steps < 7:
                body = self.check_figure(body, chance.randrange(body.many))
                steps += 1
            self.assertGreaterEqual(steps, least)

    def test_bodies_of_the_size_one(self):
        for body in (simplex(2), Body([[5, 5], [6, 7]]), moved(simplex(2), [[1, 1, 1]], [0, 0, 0])):
            for place in (0, 1):
                for told in (raised(figure, body, place), raised(figure_face, body, place, []),
                             raised(figure_face, body=body, place=place, places=[0])):
                    self.assertIs(type(told), TooFew)
                self.assertIs(type(raised(figure_face, body, place, [1])), InvalidPlaces)
            self.assertIs(type(raised(figure, body, 2)), InvalidPlace)


class FigureFaceTest(unittest.TestCase, Wrong):
    def test_it_is_a_face_of_the_figure(self):
        for index, body in enumerate(some_bodies()):
            if body.size > 1:
                for place in range(0, body.many, 2):
                    told = figure(body, place)
                    for lot in some_lots(index + place, told.many, 40):
                        self.assertIs(figure_face(body, place, lot), is_face(told, lot))

    def test_faces_through_the_corner(self):
        for points in (SQUARE, PENTAGON, SIX, PRISM, over(SQUARE), BIPYRAMID, curved(6, 4), beside_one_another(SQUARE,
                                                                                                               [[0], [1]])):
            body = Body(points)
            for place in range(body.many):
                wanted = faces_at(body, place)
                for lot in all_lots(len(around(body, place))):
                    self.assertIs(figure_face(places=tuple(lot), place=place, body=body), lot in wanted)

    def test_some(self):
        self.assertEqual([figure_face(TENT, 4, lot) for lot in ([], [0], [0, 1], [0, 2], [0, 1, 2], [0, 1, 2, 3])],
                         [True, True, True, False, False, True])
        self.assertEqual([figure_face(Body(SIX), 0, lot) for lot in ([0, 1], [0, 2], [0, 1, 2, 3])], [False, True, True])
        self.assertEqual([figure_face(simplex(4), 0, lot) for lot in all_lots(3)], [True] * 8)

    def test_a_further_corner_in_the_least_face_that_is_not_around_does_not_count(self):
        prism = Body(PRISM)
        self.assertEqual([around(prism, 0), figure_face(prism, 0, [0, 2])], [[1, 2, 3], True])


class WrongCallsTest(unittest.TestCase, Wrong):
    def test_wrong_values(self):
        bodies = kinds() + [SQUARE, [Body(SQUARE)], Body]
        good = {"body": Body(SQUARE), "place": 0}
        for function, values in ((around, good), (figure, good), (figure_face, dict(good, places=[0]))):
            self.check_wrong(function, values, "body", InvalidBody, bodies)
            self.check_wrong(function, values, "place", InvalidPlace, bad_places(4))
            self.check_first(function, values, {"body": SQUARE, "place": 4}, [InvalidBody, InvalidPlace])
        # There are two corners around one of a square, and four around the top of a tent.
        self.check_wrong(figure_face, dict(good, places=[0]), "places", InvalidPlaces, bad_lots(2))
        self.check_wrong(figure_face, {"body": TENT, "place": 4, "places": []}, "places", InvalidPlaces, bad_lots(4))
        self.check_first(figure_face, dict(good, places=[0]), {"body": SQUARE, "place": 4, "places": [2]},
                         [InvalidBody, InvalidPlace, InvalidPlaces])

    def test_numbers_that_the_test_reckons_with(self):
        self.assertEqual([rank([[1, 2], [2, 4]]), solved([[1, 1, 3], [1, 2, 5]]), solved([[1, 1], [1, 2]])], [1, [1, 2], None])
