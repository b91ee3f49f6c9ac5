"""Promises [4], [71] to [74]: wheels made of words, bodies made of wheels, pyramids and joins."""
import itertools
import unittest

from fewcorners.bodies import Body, simplex
from fewcorners.errors import InvalidBody, InvalidWheel, InvalidWord, NotFew, Simplex, TooMany
from fewcorners.makes import body_by, joined, pyramid, wheel_by
from fewcorners.ratios import Ratio
from fewcorners.wheels import is_wheel, letters, peaks
from fewcorners.words import word, word_of
from tests.helpers import Wrong, all_lots, fraction, kinds, longest, product_sum, raised, told_otherwise
from tests.samples import (BIPYRAMID, PENTAGON, PRISM, SIX, SQUARE, beside_one_another, corners_of, curved, flat,
                           over, some_bodies,
                           some_wheels)
from tests.test_faces import faces_of
from tests.test_wheels import NEARLY, THREE, least_side
from tests.test_words import FIVES, words_of

FIVE = Body(PENTAGON)


def all_words():
    """All words of up to seven corners but those of simplices, and some of the longer ones."""
    longer = [told for many in (8, 9) for at, told in enumerate(words_of(many)) if at % 9 == 0 or len(told[1]) in (4, 14, 16, 18)]
    return [told for many in range(2, 8) for told in words_of(many) if told[1]] + [told for told in longer if told[1]]


def sides(spokes):
    """The least number of spokes beyond any line on which a spoke lies, reckoned here."""
    rows = [[fraction(number) for number in spoke] for spoke in spokes]
    if len(rows[0]) == 1:
        return least_side(spokes)
    normals = [normal for east, north in rows if east or north for normal in ([-north, east], [north, -east])]
    return min(sum(product_sum(normal, row) > 0 for row in rows) for normal in normals)


class WheelByTest(unittest.TestCase, Wrong):
    def test_a_wheel_of_each_word(self):
        seen = set()
        for told in all_words():
            wheel = self.check_new(wheel_by, told)
            self.assertIs(is_wheel(wheel), True)
            self.assertEqual(word(wheel), told)
            self.assertGreaterEqual(sides(wheel), 2)
            self.assertEqual([len(wheel), len(peaks(wheel)), len(wheel[0])],
                             [told[0] + sum(told[1]), told[0], min(len(told[1]) // 2, 2)])
            for at in range(len(wheel[0])):
                self.assertEqual(sum(fraction(spoke[at]) for spoke in wheel), 0)
            self.assertEqual({type(number) for spoke in wheel for number in spoke}, {Ratio})
            self.assertLess(longest(wheel), 20)
            self.assertEqual(wheel_by(word=(told[0], tuple(told[1]))), wheel)
            seen.add(len(told[1]))
        self.assertEqual(seen, {2, 4, 6, 8, 10, 12, 14, 16, 18})

    def test_some(self):
        for told in ((0, [2, 2]), (5, [2, 2]), (0, [4, 5]), FIVES, (4, FIVES[1]), (0, [2, 2, 2, 2]), (0, [0, 1] * 9),
                     (0, [1] * 6), (3, [0, 2] * 3)):
            self.assertEqual(word(wheel_by(told)), told)

    def test_wrong_words(self):
        self.check_wrong(wheel_by, {}, "word", InvalidWord,
                         kinds() + [(0, [1, 3]), [0, [2, 2]], (0, [3, 2]), (0, []), (1, []), (10, []), (0, [2, 2], 0),
                                    (0, [2, 0] * 3), (6, [2, 2])])

    def test_words_of_simplices(self):
        for many in range(2, 10):
            for told in ((many, []), (many, ())):
                self.assertIs(type(raised(wheel_by, told)), Simplex)
                self.assertIs(type(raised(wheel_by, word=told)), Simplex)


class BodyByTest(unittest.TestCase, Wrong):
    def check_body(self, wheel):
        body = body_by(wheel)
        many, wide = len(wheel), len(wheel[0])
        points = body.points()
        self.assertIs(type(body), Body)
        self.assertEqual([body.many, body.size, body.excess], [many, many - wide - 1, wide])
        self.assertEqual({len(point) for point in points}, {body.size})
        for at in range(wide):
            for column in zip(*points):
                self.assertEqual(product_sum([spoke[at] for spoke in wheel], column), 0)
        self.assertIsNotNone(letters(wheel, body.wheel()))
        self.assertIsNotNone(letters(body.wheel(), wheel))
        self.assertLess(longest(points), 2000)
        self.assertEqual([body_by(wheel), body_by(wheel=told_otherwise(wheel))], [body, body])
        return body

    def test_a_body_of_each_wheel(self):
        for wheel in some_wheels():
            self.assertEqual(word_of(self.check_body(wheel)), word(wheel))

    def test_each_word_is_that_of_a_body(self):
        for told in all_words():
            self.assertEqual(word_of(self.check_body(wheel_by(told))), told)

    def test_the_body_of_a_bodys_wheel_has_the_same_faces(self):
        for points in (SQUARE, PENTAGON, SIX, PRISM, over(SQUARE), BIPYRAMID, curved(6, 3), flat(PRISM, 2)):
            body = Body(points)
            self.assertEqual(faces_of(body_by(body.wheel())), faces_of(body))

    def test_the_spokes_stay_at_their_places(self):
        self.assertEqual(peaks(body_by([[0], [1], [1], [-1], [-1]]).wheel()), [0])
        self.assertEqual(faces_of(body_by(THREE)), faces_of(Body(SIX)))
        self.assertNotEqual(faces_of(body_by(THREE[1:] + THREE[:1])), faces_of(Body(SIX)))

    def test_long_numbers(self):
        points = [[Ratio(at ** power * 999983 + 1, 999979 - at * 7 - power) for power in range(1, 7)] for at in range(9)]
        wheel = Body(points).wheel()
        self.assertGreater(longest(wheel), 100)
        self.check_body(wheel)

    def test_what_is_passed_stays(self):
        wheel = [[1], [1], [-1], [-1]]
        body = body_by(wheel)
        wheel[0][0] = 7
        self.assertEqual(body, body_by([[1], [1], [-1], [-1]]))

    def test_wrong_wheels(self):
        self.check_wrong(body_by, {}, "wheel", InvalidWheel, NEARLY + kinds() + [[[]] * 4, Body(SQUARE)])


class PyramidTest(unittest.TestCase, Wrong):
    def test_points_word_and_faces(self):
        for body in some_bodies():
            points = body.points()
            if body.many < 9 and len(points[0]) < 8:
                told = pyramid(body)
                self.assertIs(type(told), Body)
                self.assertEqual(told.points(),
                                 [[*point, Ratio(0)] for point in points] + [[Ratio(0)] * len(points[0]) + [Ratio(1)]])
                self.assertEqual([told.many, told.size, told.excess], [body.many + 1, body.size + 1, body.excess])
                bare, numbers = word_of(body)
                self.assertEqual([word_of(told), pyramid(body=body)], [(bare + 1, numbers), told])
                if body.excess:
                    self.assertIn(body.many, peaks(told.wheel()))
                if body.many < 7:
                    found = faces_of(body)
                    self.assertEqual(sorted(faces_of(told)), sorted(found + [lot + [body.many] for lot in found]))

    def test_some(self):
        self.assertEqual(pyramid(Body(SQUARE)), Body(over(SQUARE)))
        for many in range(2, 9):
            self.assertEqual(pyramid(simplex(many)), simplex(many + 1))

    def check_too_many(self, function, values, what, limit):
        for told in (raised(function, *values.values()), raised(function, **values)):
            self.assertEqual([type(told), told.what, told.limit], [TooMany, what, limit])

    def test_too_many(self):
        for points in (curved(9, 6), curved(9, 7), corners_of(9), flat(curved(9, 6), 2)):
            self.check_too_many(pyramid, {"body": Body(points)}, "corners", 9)
        for points in (flat(SQUARE, 6), flat(curved(8, 6), 2), flat([[0], [1]], 7)):
            self.check_too_many(pyramid, {"body": Body(points)}, "numbers", 8)
        self.assertEqual(pyramid(Body(curved(8, 7))).size, 8)
        self.assertEqual(pyramid(Body(flat(SQUARE, 5))).size, 3)

    def test_wrong_bodies(self):
        self.check_wrong(pyramid, {}, "body", InvalidBody, kinds() + [SQUARE, [Body(SQUARE)], Body])


class JoinedTest(unittest.TestCase, Wrong):
    def test_points_and_faces(self):
        bodies = [Body(points) for points in ([[0], [1]], [[2, 1], [3, 4]], SQUARE, PENTAGON, over(SQUARE), BIPYRAMID,
                                              corners_of(4), flat(SQUARE, 1))]
        seen = 0
        for body, other in itertools.product(bodies, repeat=2):
            many, wide = body.many + other.many, len(body.points()[0]) + len(other.points()[0]) + 1
            if body.excess + other.excess <= 2 and many <= 9 and wide <= 8:
                told = joined(body, other)
                self.assertIs(type(told), Body)
                self.assertEqual(told, Body(beside_one_another(body.points(), other.points())))
                self.assertEqual(told.points()[0][-1], Ratio(0))
                self.assertEqual([told.many, told.size, told.excess],
                                 [many, body.size + other.size + 1, body.excess + other.excess])
                self.assertEqual(joined(other=other, body=body), told)
                if many < 8:
                    found = [lot + [body.many + at for at in its] for lot in faces_of(body) for its in faces_of(other)]
                    self.assertEqual(sorted(faces_of(told)), sorted(found))
                seen += 1
        self.assertGreater(seen, 25)

    def test_some(self):
        self.assertEqual(joined(simplex(2), simplex(3)).points(), [[Ratio(number) for number in point] for point in (
            [0, 0, 0, 0], [1, 0, 0, 0], [0, 0, 0, 1], [0, 1, 0, 1], [0, 0, 1, 1])])
        self.assertEqual(word_of(joined(simplex(2), simplex(3))), (5, []))
        self.assertEqual(word_of(joined(Body(SQUARE), simplex(3))), (3, [2, 2]))
        self.assertEqual(word_of(joined(Body(SQUARE), Body(SQUARE))), (0, [2, 2, 2, 2]))
        self.assertEqual(word_of(joined(Body(SQUARE), Body(BIPYRAMID))), (0, [2, 2, 2, 3]))
        self.assertEqual(word_of(joined(simplex(4), FIVE)), (4, FIVES[1]))

    def test_not_few_ahead_of_too_many(self):
        eight = Body(curved(9, 6))
        pairs = [(FIVE, Body(SQUARE)), (Body(SQUARE), FIVE), (FIVE, FIVE), (eight, Body(SQUARE)), (Body(flat(SQUARE, 6)), eight)]
        for body, other in pairs:
            for told in (raised(joined, body, other), raised(joined, body=body, other=other)):
                self.assertIs(type(told), NotFew)

    def test_too_many_corners_ahead_of_too_many_numbers(self):
        pairs = [(simplex(5), simplex(5)), (Body(SQUARE), Body(curved(6, 4))), (Body(curved(8, 5)), simplex(2)),
                 (simplex(9), simplex(9)),
                 (Body(flat([[0], [1]], 7)), Body(curved(8, 6))), (simplex(2), Body(curved(9, 6)))]
        for body, other in pairs:
            for told in (raised(joined, body, other), raised(joined, body=body, other=other)):
                self.assertEqual([type(told), told.what, told.limit], [TooMany, "corners", 9])
        pairs = [(Body(flat(SQUARE, 6)), simplex(2)), (simplex(2), Body(flat([[0], [1]], 6))),
                 (Body(flat([[0], [1]], 3)), Body(flat(SQUARE, 2)))]
        for body, other in pairs:
            for told in (raised(joined, body, other), raised(joined, body=body, other=other)):
                self.assertEqual([type(told), told.what, told.limit], [TooMany, "numbers", 8])
        self.assertEqual(joined(simplex(4), simplex(5)).many, 9)
        self.assertEqual(len(joined(simplex(2), Body(flat([[0], [1]], 5))).points()[0]), 8)

    def test_wrong_bodies(self):
        bodies = kinds() + [SQUARE, [Body(SQUARE)], Body]
        good = {"body": Body(SQUARE), "other": simplex(2)}
        for name in good:
            self.check_wrong(joined, good, name, InvalidBody, bodies)
        self.check_first(joined, good, {"body": SQUARE, "other": None}, [InvalidBody] * 2)
        self.check_wrong(joined, {"body": FIVE, "other": FIVE}, "other", InvalidBody, [None, SQUARE])

    def test_a_pyramid_is_a_join_with_a_lone_point(self):
        for points in (SQUARE, PENTAGON, BIPYRAMID):
            lone = [point + [0] for point in points] + [[0] * len(points[0]) + [1]]
            self.assertEqual(pyramid(Body(points)), Body(lone))
            self.assertEqual(len(all_lots(len(lone))), 2 ** (len(points) + 1))
