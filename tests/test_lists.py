"""Promises [9], [45], [46]: faces, facets and edges listed, sizes of faces, and face numbers."""
import math
import unittest

from fewcorners.bodies import Body, simplex
from fewcorners.errors import InvalidBody, InvalidMany, InvalidPlaces, NotFace
from fewcorners.lists import edges, face_numbers, face_size, faces, facets
from tests.helpers import Wrong, all_lots, bad_lots, kinds, raised, size_of, told_otherwise
from tests.samples import BIPYRAMID, PENTAGON, PRISM, SIX, SQUARE, beside_one_another, curved, over, some_bodies
from tests.test_faces import faces_of

LISTS = (facets, edges, face_numbers)


def size_by_points(points, lot):
    """The size of a face by the differences of its points, reckoned here."""
    return len(lot) - 1 if len(lot) < 2 else size_of([points[at] for at in lot])


def small_bodies():
    """All of the bodies that have at most seven corners, and some of the others."""
    found = some_bodies()
    return [body for body in found if body.many <= 7] + [body for body in found if body.many > 7][::4]


class FacesTest(unittest.TestCase, Wrong):
    def test_all_faces_by_how_many_corners_they_have(self):
        for body in small_bodies():
            found = faces_of(body)
            for many in range(10):
                told = self.check_new(faces, body, many)
                self.assertEqual(told, sorted(lot for lot in found if len(lot) == many))
                self.assertTrue(all(type(at) is int for lot in told for at in lot))
                self.assertEqual(faces(many=many, body=body), told)

    def test_some(self):
        square, six = Body(SQUARE), Body(SIX)
        self.assertEqual([faces(square, many) for many in (0, 1, 3, 4, 5, 9)],
                         [[[]], [[0], [1], [2], [3]], [], [[0, 1, 2, 3]], [], []])
        self.assertEqual(faces(six, 3), [[one, two, third] for one in (0, 1) for two in (2, 3) for third in (4, 5)])
        self.assertEqual([len(faces(six, many)) for many in range(10)], [1, 6, 12, 8, 0, 0, 1, 0, 0, 0])
        self.assertEqual([len(faces(simplex(9), many)) for many in range(10)], [math.comb(9, many) for many in range(10)])
        self.assertEqual(faces(Body(PRISM), 4), [[0, 1, 3, 4], [0, 2, 3, 5], [1, 2, 4, 5]])

    def test_facets_lie_in_no_other_face_but_all(self):
        for body in small_bodies():
            proper = [set(lot) for lot in faces_of(body) if len(lot) < body.many]
            wanted = sorted(sorted(lot) for lot in proper if not any(lot < other for other in proper))
            told = self.check_new(facets, body)
            self.assertEqual(told, wanted)
            self.assertEqual(facets(body=body), told)
            for lot in proper:
                holding = [set(facet) for facet in told if lot <= set(facet)]
                self.assertEqual(set.intersection(*holding), lot)

    def test_some_facets(self):
        self.assertEqual(facets(simplex(2)), [[0], [1]])
        self.assertEqual(facets(simplex(3)), [[0, 1], [0, 2], [1, 2]])
        self.assertEqual(facets(Body(PENTAGON)), [[0, 1], [0, 4], [1, 2], [2, 3], [3, 4]])
        self.assertEqual(facets(Body(over(SQUARE))), [[0, 1, 2, 3], [0, 1, 4], [0, 3, 4], [1, 2, 4], [2, 3, 4]])
        self.assertEqual(facets(Body(PRISM)), [[0, 1, 2], [0, 1, 3, 4], [0, 2, 3, 5], [1, 2, 4, 5], [3, 4, 5]])
        self.assertEqual(facets(Body(BIPYRAMID)), [[0, 1, 3], [0, 1, 4], [0, 2, 3], [0, 2, 4], [1, 2, 3], [1, 2, 4]])

    def test_edges_are_the_faces_of_two_corners(self):
        for body in small_bodies():
            told = self.check_new(edges, body)
            self.assertEqual(told, sorted(tuple(lot) for lot in faces_of(body) if len(lot) == 2))
            self.assertTrue(all(type(edge) is tuple for edge in told))
        self.assertEqual(edges(body=simplex(2)), [(0, 1)])
        self.assertEqual(edges(Body(PENTAGON)), [(0, 1), (0, 4), (1, 2), (2, 3), (3, 4)])
        self.assertEqual(len(edges(Body(curved(7, 4)))), 21)

    def test_what_is_passed_counts_by_its_worth(self):
        for body in small_bodies()[::3]:
            other = Body(told_otherwise(body.points()))
            for function in LISTS:
                self.assertEqual(function(other), function(body))


class SizesTest(unittest.TestCase, Wrong):
    def test_sizes_are_those_of_the_points(self):
        seen = set()
        for body in small_bodies():
            points = body.points()
            for lot in faces_of(body):
                told = face_size(body, lot)
                self.assertEqual([told, type(told)], [size_by_points(points, lot), int])
                self.assertEqual(face_size(places=tuple(lot), body=body), told)
                seen.add(told)
            self.assertEqual(face_size(body, list(range(body.many))), body.size)
            self.assertEqual({face_size(body, facet) for facet in facets(body)}, {body.size - 1})
        self.assertEqual(seen, set(range(-1, 9)))

    def test_of_faces_within_one_another_the_inner_one_is_less(self):
        for points in (SQUARE, PENTAGON, PRISM, over(SQUARE), curved(6, 4)):
            body = Body(points)
            found = [(set(lot), face_size(body, lot)) for lot in faces_of(body)]
            for lot, size in found:
                for other, its in found:
                    self.assertTrue(size < its or not lot < other)

    def test_some_sizes(self):
        tent = Body(over(SQUARE))
        self.assertEqual([face_size(tent, lot) for lot in ([], [4], [0, 4], [0, 1, 4], [0, 1, 2, 3], [0, 1, 2, 3, 4])],
                         [-1, 0, 1, 2, 2, 3])
        self.assertEqual(face_size(simplex(2), [0, 1]), 1)

    def test_face_numbers(self):
        for body in small_bodies():
            points = body.points()
            sizes = [size_by_points(points, lot) for lot in faces_of(body)]
            told = self.check_new(face_numbers, body)
            self.assertEqual(told, [sizes.count(size) for size in range(-1, body.size + 1)])
            self.assertEqual([len(told), {type(number) for number in told}], [body.size + 2, {int}])
            self.assertEqual(sum(number * (-1) ** at for at, number in enumerate(told)), 0)
            self.assertEqual([told[0], told[1], told[-1]], [1, body.many, 1])
            self.assertEqual(face_numbers(body=body), told)

    def test_some_face_numbers(self):
        told = {
            ((0,), (1,)): [1, 2, 1], tuple(map(tuple, SQUARE)): [1, 4, 4, 1], tuple(map(tuple, PENTAGON)): [1, 5, 5, 1],
            tuple(map(tuple, SIX)): [1, 6, 12, 8, 1], tuple(map(tuple, PRISM)): [1, 6, 9, 5, 1],
            tuple(map(tuple, over(SQUARE))): [1, 5, 8, 5, 1], tuple(map(tuple, curved(7, 4))): [1, 7, 21, 28, 14, 1],
            tuple(map(tuple, over(PENTAGON))): [1, 6, 10, 6, 1], tuple(map(tuple, BIPYRAMID)): [1, 5, 9, 6, 1],
            tuple(map(tuple, beside_one_another(SQUARE, [[0], [1]]))): [1, 6, 13, 13, 6, 1],
        }
        for points, wanted in told.items():
            self.assertEqual(face_numbers(Body(points)), wanted)
        for many in range(2, 10):
            self.assertEqual(face_numbers(simplex(many)), [math.comb(many, at) for at in range(many + 1)])

    def test_a_body_in_a_plane_with_four_corners(self):
        body = Body(SQUARE)
        self.assertEqual([faces(body, 0), len(faces(body, 1)), edges(body), faces(body, 4)],
                         [[[]], 4, [(0, 1), (0, 3), (1, 2), (2, 3)], [[0, 1, 2, 3]]])


class WrongCallsTest(unittest.TestCase, Wrong):
    def test_wrong_bodies(self):
        bodies = kinds() + [SQUARE, [Body(SQUARE)], Body]
        for function in LISTS:
            self.check_wrong(function, {}, "body", InvalidBody, bodies)
        self.check_wrong(faces, {"body": Body(SQUARE), "many": 2}, "body", InvalidBody, bodies)
        self.check_wrong(face_size, {"body": Body(SQUARE), "places": [0]}, "body", InvalidBody, bodies)

    def test_wrong_numbers_of_corners(self):
        wrong = [value for value in kinds() if not (type(value) is int and 0 <= value <= 9)]
        self.check_wrong(faces, {"body": Body(SQUARE), "many": 2}, "many", InvalidMany, wrong + [-2, 10, 11, 100])
        self.check_first(faces, {"body": Body(SQUARE), "many": 2}, {"body": SQUARE, "many": 10}, [InvalidBody, InvalidMany])

    def test_wrong_lots(self):
        good = {"body": Body(SQUARE), "places": [0]}
        self.check_wrong(face_size, good, "places", InvalidPlaces, bad_lots(4))
        self.check_first(face_size, good, {"body": SQUARE, "places": [2, 0]}, [InvalidBody, InvalidPlaces])

    def test_no_faces(self):
        for points in (SQUARE, PRISM, SIX, over(SQUARE), curved(6, 4)):
            body = Body(points)
            found = faces_of(body)
            for lot in all_lots(body.many):
                if lot not in found:
                    for told in (raised(face_size, body, lot), raised(face_size, body=body, places=tuple(lot))):
                        self.assertIs(type(told), NotFace)
        self.assertIs(type(raised(face_size, Body(SQUARE), [2, 0])), InvalidPlaces)
