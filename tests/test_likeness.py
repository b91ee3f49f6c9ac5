"""Promises [4], [56], [61], [62], [63], [65]: face maps, likeness by words, own maps."""
import itertools
import math
import random
import unittest

from fewcorners.balances import least_balanced
from fewcorners.bodies import Body, moved, simplex
from fewcorners.errors import InvalidBody
from fewcorners.likeness import alike, is_alike, own_maps
from fewcorners.lists import facets
from fewcorners.makes import body_by, wheel_by
from fewcorners.ratios import Ratio
from fewcorners.words import word_of
from tests.helpers import Wrong, any_kinds, kinds, raised, told_otherwise
from tests.samples import PENTAGON, PRISM, SIX, SQUARE, beside_one_another, curved, over, some_bodies
from tests.test_faces import faces_of
from tests.test_words import words_of

KITE = [[0, 0], [2, 0], [1, 3], [1, -1]]


def led(lots, told):
    """The lots, named by where the map leads their corners."""
    return sorted(sorted(told[at] for at in lot) for lot in lots)


def is_face_map(body, other, told):
    """By the words of [61]: each face goes to a face, and each face of the other one comes from a face."""
    return led(faces_of(body), told) == sorted(faces_of(other))


def shuffled(body, seed):
    """The body with its corners in another sequence."""
    points = body.points()
    random.Random(seed).shuffle(points)
    return Body(points)


def made_bodies(many):
    """A body of each word of so many corners."""
    return [simplex(many) if not numbers else body_by(wheel_by((bare, numbers))) for bare, numbers in words_of(many)]


def marks(body):
    """How many facets of each length each corner has: corners go to corners that have the same."""
    found = facets(body)
    return [sorted(len(facet) for facet in found if at in facet) for at in range(body.many)]


def all_face_maps(body, other):
    """All face maps, by trying the maps that keep the marks of corners."""
    mine, its, wanted, found = marks(body), marks(other), facets(other), facets(body)
    return [list(told) for told in itertools.permutations(range(other.many))
            if all(its[to] == mark for to, mark in zip(told, mine)) and led(found, told) == wanted]


class AlikeTest(unittest.TestCase, Wrong):
    def test_alike_exactly_if_the_words_are_the_same(self):
        seen = {True: 0, False: 0}
        for many in (4, 5, 6):
            bodies = made_bodies(many) + [body for body in some_bodies() if body.many == many]
            for at, (body, other) in enumerate(itertools.product(bodies, repeat=2)):
                other = shuffled(other, at)
                told, same = alike(body, other), word_of(body) == word_of(other)
                self.assertEqual(told is not None, same)
                if same:
                    self.assertTrue(is_face_map(body, other, told))
                    self.assertIs(is_alike(body, other, told), True)
                elif len(facets(body)) == len(facets(other)) and sorted(marks(body)) == sorted(marks(other)):
                    self.assertEqual(all_face_maps(body, other), [])
                seen[same] += 1
        self.assertGreater(min(seen.values()), 60)

    def test_a_face_map_leads_to_each_other_sequence_of_the_corners(self):
        for at, body in enumerate(some_bodies()):
            other = shuffled(body, at)
            told = self.check_new(alike, body, other)
            self.assertEqual([type(told), sorted(told)], [list, list(range(body.many))])
            self.assertEqual({type(to) for to in told}, {int})
            self.assertEqual(led(facets(body), told), facets(other))
            self.assertIs(is_alike(body, other, told), True)
            self.assertEqual(alike(other=other, body=Body(told_otherwise(body.points()))), told)
            if body.many <= 6:
                self.assertTrue(is_face_map(body, other, told))

    def test_faces_go_to_faces_of_the_same_size(self):
        for points in (SQUARE, SIX, PRISM, over(SQUARE), curved(7, 4)):
            body = Body(points)
            other = shuffled(body, 81)
            told = alike(body, other)
            self.assertEqual(led(faces_of(body), told), sorted(faces_of(other)))
            self.assertEqual([body.size, len(facets(body))], [other.size, len(facets(other))])

    def test_moved_and_bent_bodies_are_alike(self):
        lying = moved(Body(PRISM), [[1, 2, 0, 0], [0, 1, 5, 0], [3, 0, 1, 1]], [1, 0, 0, 7])
        bent = Body([[0, 0, 0], [5, 0, 0], [0, 4, 0], [1, 1, 1], [2, 1, 1], [1, Ratio(3, 2), 1]])
        for one, other in itertools.permutations([Body(PRISM), lying], 2):
            self.assertIs(is_alike(one, other, alike(one, other)), True)
        self.assertEqual(alike(Body(PRISM), bent) is None, word_of(bent) != word_of(Body(PRISM)))
        self.assertIs(is_alike(Body(SQUARE), Body(KITE), alike(Body(SQUARE), Body(KITE))), True)

    def test_not_alike(self):
        for one, other in ((Body(SQUARE), simplex(4)), (Body(SQUARE), simplex(3)), (Body(SQUARE), Body(PENTAGON)),
                           (Body(SIX), Body(PRISM)),
                           (Body(over(SQUARE)), Body(PENTAGON)), (simplex(2), simplex(3)), (Body(SIX), Body(curved(6, 3)))):
            self.assertIsNone(alike(one, other))
            self.assertIsNone(alike(body=other, other=one))
            self.assertNotEqual(word_of(one), word_of(other))

    def test_simplices(self):
        for many in range(2, 10):
            told = alike(simplex(many), simplex(many))
            self.assertEqual(sorted(told), list(range(many)))
        for told in itertools.permutations(range(4)):
            self.assertIs(is_alike(simplex(4), Body([[1, 0, 0], [0, 2, 0], [0, 0, 3], [4, 4, 4]]), told), True)


class IsAlikeTest(unittest.TestCase, Wrong):
    def test_maps(self):
        good = {"body": Body(SQUARE), "other": Body(SQUARE)}
        yes = [[0, 1, 2, 3], (1, 2, 3, 0), [3, 2, 1, 0], [0, 3, 2, 1], (2, 1, 0, 3)]
        no = [[0, 2, 1, 3], [1, 0, 2, 3], [0, 1, 2], [0, 1, 2, 3, 4], [0, 0, 2, 2], [1, 2, 3, 4], [-1, 0, 1, 2], [0, 1, 2, -1],
              [False, True, 2, 3], [0, True, 2, 3], [Ratio(0), 1, 2, 3], ["0", 1, 2, 3], "0123",
              {0: 0, 1: 1, 2: 2, 3: 3}, {0, 1, 2, 3},
              range(4), [[0, 1, 2, 3]], [0, 1, 2, None], [0, 1, 2, 2], [3, 3, 3, 3], b"\x00\x01\x02\x03", [0, 1, 2, 10 ** 40]]
        self.check_asked(is_alike, good, "value", True, yes)
        self.check_asked(is_alike, good, "value", False, no + any_kinds())

    def test_with_more_or_less_corners_none_is_one(self):
        for other in (simplex(3), Body(PENTAGON), simplex(5)):
            values = [[0, 1, 2], [0, 1, 2, 3], [0, 1, 2, 3, 4], (0, 1, 2, 3)] + any_kinds()
            self.check_asked(is_alike, {"body": Body(SQUARE), "other": other}, "value", False, values)
            self.check_asked(is_alike, {"body": other, "other": Body(SQUARE)}, "value", False, values)

    def test_of_another_size_none_is_one(self):
        for told in itertools.permutations(range(4)):
            self.assertIs(is_alike(Body(SQUARE), simplex(4), list(told)), False)
            self.assertIs(is_alike(simplex(4), Body(SQUARE), list(told)), False)
        for told in itertools.permutations(range(5)):
            self.assertIs(is_alike(Body(over(SQUARE)), Body(PENTAGON), told), False)

    def test_all_maps_by_faces_and_by_least_balanced_lots(self):
        pairs = [(Body(SQUARE), Body(KITE)), (Body(over(SQUARE)), shuffled(Body(over(SQUARE)), 82)),
                 (Body(PENTAGON), Body(PENTAGON[1:] + PENTAGON[:1]))]
        for body, other in pairs:
            seen = 0
            for told in itertools.permutations(range(body.many)):
                wanted = is_face_map(body, other, told)
                self.assertIs(is_alike(body, other, list(told)), wanted)
                self.assertEqual(led(least_balanced(body.wheel()), told) == least_balanced(other.wheel()), wanted)
                seen += wanted
            self.assertEqual(seen, own_maps(body))

    def test_sequences_by_chance(self):
        chance = random.Random(83)
        for body in some_bodies():
            told = list(range(body.many))
            for _ in range(3):
                chance.shuffle(told)
                self.assertIs(is_alike(body, body, told), led(facets(body), told) == facets(body))


class OwnMapsTest(unittest.TestCase, Wrong):
    def test_how_many_there_are(self):
        for many in (4, 5, 6):
            for body in made_bodies(many):
                told = own_maps(body)
                self.assertEqual([told, type(told)], [len(all_face_maps(body, body)), int])

    def test_some(self):
        self.assertEqual([own_maps(Body(SQUARE)), own_maps(body=Body(PENTAGON)), own_maps(Body(SIX)),
                          own_maps(Body(PRISM))], [8, 10, 48, 12])
        self.assertEqual([own_maps(Body(curved(7, 4))), own_maps(Body(curved(9, 6))),
                          own_maps(Body(over(over(PENTAGON))))], [14, 18, 20])
        self.assertEqual([own_maps(simplex(many)) for many in range(2, 10)], [math.factorial(many) for many in range(2, 10)])
        self.assertEqual(own_maps(Body(beside_one_another(SQUARE, SQUARE))), 128)
        self.assertEqual(own_maps(Body(over(over(SQUARE)))), 16)


class WrongCallsTest(unittest.TestCase, Wrong):
    def test_wrong_bodies(self):
        bodies = kinds() + [SQUARE, [Body(SQUARE)], Body]
        good = {"body": Body(SQUARE), "other": Body(SQUARE)}
        for function, values in ((alike, good), (is_alike, dict(good, value=None))):
            for name in ("body", "other"):
                self.check_wrong(function, values, name, InvalidBody, bodies)
            self.check_first(function, values, {"body": SQUARE, "other": KITE}, [InvalidBody] * 2)
        self.check_wrong(own_maps, {}, "body", InvalidBody, bodies)
        self.assertEqual(raised(alike, simplex(2), 7).value, 7)
