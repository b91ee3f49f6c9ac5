"""Promises [82] to [85]: simplicial words and how many there are, face numbers by words, neighbourly bodies."""
import itertools
import math
import unittest

from fewcorners.bodies import Body, simplex
from fewcorners.errors import InvalidBody, InvalidMany, InvalidWord
from fewcorners.faces import is_face
from fewcorners.kinds import (is_neighbourly, is_simplicial, most_neighbourly, numbers_by, simplicial_count,
                              simplicial_words)
from fewcorners.lists import face_numbers, facets
from fewcorners.makes import body_by, wheel_by
from fewcorners.words import word_of
from tests.helpers import Wrong, kinds
from tests.samples import BIPYRAMID, PENTAGON, PRISM, SIX, SQUARE, curved, over, some_bodies
from tests.test_listing import BAD_EXCESS, BAD_MANY, excess_of
from tests.test_words import words_of

BAD_WORDS = kinds() + [(0, [1, 3]), [0, [2, 2]], (0, [3, 2]), (0, []), (1, []), (10, []), (0, [2, 2], 0), (0, [2, 0] * 3)]
SHORT = [word for many in range(2, 8) for word in words_of(many)]
LONGER = [word for many in (8, 9) for word in words_of(many)]


def body_of(word):
    return body_by(wheel_by(word)) if word[1] else simplex(word[0])


def turned_lists(total, odd):
    """How many lists of an odd number of COUNTS from 1 on add up to the total, but for turning and mirroring: Burnside."""
    kept = 0
    for shared in range(1, odd + 1):
        if odd % shared == 0 and total % shared == 0:
            free = sum(math.gcd(number, shared) == 1 for number in range(1, shared + 1))
            kept += free * math.comb(total // shared - 1, odd // shared - 1)
    half = (odd - 1) // 2
    # A mirror leaves one place, and exchanges the others in pairs.
    mirrored = sum(math.comb((total - lone) // 2 - 1, half - 1) for lone in range(1, total + 1)
                   if (total - lone) % 2 == 0 and (total - lone) // 2 >= half)
    assert (kept + odd * mirrored) % (2 * odd) == 0
    return (kept + odd * mirrored) // (2 * odd)


def wanted_count(many):
    """How many simplicial words there are by [82], counted by turned lists."""
    three = turned_lists(many - 3, 3) if many >= 6 else 0
    return three + sum(turned_lists(many, odd) for odd in range(5, many + 1, 2))


class SimplicialTest(unittest.TestCase, Wrong):
    def test_words_of_simplicial_bodies(self):
        seen = set()
        for word in SHORT + LONGER[::8]:
            body = body_of(word)
            wanted = all(len(facet) == body.size for facet in facets(body))
            for told in (is_simplicial(word), is_simplicial(word=(word[0], tuple(word[1])))):
                self.assertIs(told, wanted, word)
            seen.add((excess_of(word), word[0] > 0, wanted))
        self.assertEqual(seen, {(0, True, True), (1, False, True), (1, True, False), (2, True, False), (2, False, True),
                                (2, False, False)})

    def test_of_bodies(self):
        for body in some_bodies():
            self.assertIs(is_simplicial(word_of(body)), all(len(facet) == body.size for facet in facets(body)))

    def test_some(self):
        yes = [(2, []), (9, []), (0, [2, 2]), (0, [4, 5]), (0, [0, 1] * 5), (0, [0, 2] * 3), (0, [0, 3] * 3), (0, [0, 1] * 9),
               (0, [0, 1, 0, 1, 0, 1, 0, 1, 0, 2])]
        no = [(1, [2, 2]), (5, [2, 2]), (1, [0, 1] * 5), (3, [0, 2] * 3), (0, [1] * 6), (0, [2] * 4),
              (0, [0, 1, 1, 0, 1, 1, 0, 2]),
              (1, [1] * 6)]
        self.assertEqual([is_simplicial(word) for word in yes + no], [True] * len(yes) + [False] * len(no))

    def test_all_simplicial_words(self):
        for many in range(2, 10):
            for excess in range(3):
                told = self.check_new(simplicial_words, many, excess)
                wanted = sorted(word for word in words_of(many) if excess_of(word) == excess and is_simplicial(word))
                self.assertEqual(told, wanted)
                self.assertEqual(simplicial_words(excess=excess, many=many), told)
                for word in told:
                    self.assertEqual([type(word), type(word[0]), type(word[1])], [tuple, int, list])

    def test_some_words(self):
        self.assertEqual([simplicial_words(2, 0), simplicial_words(9, 0), simplicial_words(3, 1), simplicial_words(4, 2)],
                         [[(2, [])], [(9, [])], [], []])
        self.assertEqual([simplicial_words(6, 1), simplicial_words(9, 1)],
                         [[(0, [2, 4]), (0, [3, 3])], [(0, [2, 7]), (0, [3, 6]), (0, [4, 5])]])
        self.assertEqual(simplicial_words(7, 2), [
            (0, [0, 1] * 7), (0, [0, 1, 0, 1, 0, 1, 0, 1, 0, 3]), (0, [0, 1, 0, 1, 0, 1, 0, 2, 0, 2]),
            (0, [0, 1, 0, 1, 0, 2, 0, 1, 0, 2]), (0, [0, 2, 0, 2, 0, 3])])

    def test_noughts_and_numbers_by_turns(self):
        for many in range(5, 10):
            for bare, numbers in simplicial_words(many, 2):
                half = len(numbers) // 2
                self.assertEqual([bare, half % 2, set(numbers[::2])], [0, 1, {0}])
                self.assertGreaterEqual(min(numbers[1::2]), 2 if half == 3 else 1)


class CountTest(unittest.TestCase, Wrong):
    def test_the_numbers_of_the_document(self):
        self.assertEqual([simplicial_count(many) for many in (5, 6, 7, 8, 9)], [1, 2, 5, 8, 18])

    def test_it_is_the_length_of_the_list(self):
        for many in range(5, 10):
            told = simplicial_count(many=many)
            self.assertEqual([told, type(told)], [len(simplicial_words(many, 2)), int])

    def test_up_to_sixty(self):
        for many in range(5, 61):
            self.assertEqual(simplicial_count(many), wanted_count(many))
        self.assertEqual(simplicial_count(60), 4803839870972762)


class NumbersByTest(unittest.TestCase, Wrong):
    def test_those_of_bodies_made_by_the_word(self):
        seen = set()
        for word in SHORT + LONGER[::12]:
            told = self.check_new(numbers_by, word)
            self.assertEqual(told, face_numbers(body_of(word)), word)
            self.assertEqual({type(number) for number in told}, {int})
            self.assertEqual(numbers_by(word=(word[0], tuple(word[1]))), told)
            seen.add((excess_of(word), word[0] > 0))
        self.assertEqual(seen, {(0, True), (1, True), (1, False), (2, True), (2, False)})

    def test_those_of_some_bodies(self):
        for body in some_bodies():
            self.assertEqual(numbers_by(word_of(body)), face_numbers(body))

    def test_with_signs_by_turns_they_come_to_nought(self):
        for word in LONGER:
            told = numbers_by(word)
            many = word[0] + sum(word[1])
            self.assertEqual(sum(number * (-1) ** at for at, number in enumerate(told)), 0)
            self.assertEqual([len(told), told[0], told[1], told[-1]], [many - excess_of(word) + 1, 1, many, 1])

    def test_some(self):
        self.assertEqual([numbers_by((2, [])), numbers_by((4, [])), numbers_by((0, [2, 2])), numbers_by((1, [2, 2]))],
                         [[1, 2, 1], [1, 4, 6, 4, 1], [1, 4, 4, 1], [1, 5, 8, 5, 1]])
        self.assertEqual([numbers_by((0, [0, 1] * 5)), numbers_by((1, [0, 1] * 5)), numbers_by((0, [1] * 6)),
                          numbers_by((0, [0, 2] * 3))],
                         [[1, 5, 5, 1], [1, 6, 10, 6, 1], [1, 6, 9, 5, 1], [1, 6, 12, 8, 1]])
        self.assertEqual([numbers_by((0, [0, 1] * 9)), numbers_by((9, []))],
                         [[1, 9, 36, 84, 117, 90, 30, 1], [math.comb(9, at) for at in range(10)]])


class NeighbourlyTest(unittest.TestCase, Wrong):
    def test_each_lot_is_a_face(self):
        seen = set()
        for body in some_bodies():
            found = []
            for many in range(body.many + 1):
                wanted = all(is_face(body, list(lot)) for lot in itertools.combinations(range(body.many), many))
                self.assertIs(is_neighbourly(body, many), wanted)
                self.assertIs(is_neighbourly(many=many, body=body), wanted)
                found.append(wanted)
            told = most_neighbourly(body)
            self.assertEqual([told, type(told)], [max(at for at in range(body.many) if found[at]), int])
            self.assertEqual([all(found[:told + 1]), found[0], found[1], found[-1]], [True] * 4)
            self.assertEqual(most_neighbourly(body=body), told)
            self.assertTrue(body.excess == 0 or told <= body.size // 2)
            seen.add(told)
        self.assertGreaterEqual(seen, {1, 2, 3, 4, 8})

    def test_some(self):
        self.assertEqual([is_neighbourly(Body(SQUARE), many) for many in range(5)], [True, True, False, False, True])
        self.assertEqual([is_neighbourly(Body(curved(7, 4)), many) for many in range(8)], [True] * 3 + [False] * 4 + [True])
        self.assertEqual([most_neighbourly(Body(points)) for points in (SQUARE, PENTAGON, SIX, PRISM, BIPYRAMID,
                                                                        over(SQUARE))], [1] * 6)
        self.assertEqual([most_neighbourly(Body(curved(6, 4))), most_neighbourly(Body(curved(9, 6)))], [2, 3])
        self.assertEqual([most_neighbourly(simplex(many)) for many in range(2, 10)], list(range(1, 9)))
        self.assertEqual([is_neighbourly(simplex(3), many) for many in range(4)], [True] * 4)

    def test_the_only_words_with_half_of_an_even_size(self):
        for many in (5, 7, 9):
            half = (many - 3) // 2
            found = [word for word in words_of(many)[::1 if many < 9 else 5] + [(0, [0, 1] * many)] if excess_of(word) == 2
                     and numbers_by(word)[half] == math.comb(many, half)]
            self.assertEqual({most_neighbourly(body_of((bare, numbers))) for bare, numbers in found}, {half})
            self.assertTrue(all(word == (0, [0, 1] * many) for word in found))


class WrongCallsTest(unittest.TestCase, Wrong):
    def test_wrong_words(self):
        for function in (is_simplicial, numbers_by):
            self.check_wrong(function, {}, "word", InvalidWord, BAD_WORDS + [Body(SQUARE)])

    def test_wrong_numbers_of_corners(self):
        good = {"many": 6, "excess": 2}
        self.check_wrong(simplicial_words, good, "many", InvalidMany, BAD_MANY)
        self.check_wrong(simplicial_words, good, "excess", InvalidMany, BAD_EXCESS)
        self.check_first(simplicial_words, good, {"many": 1, "excess": -1}, [InvalidMany, InvalidMany])
        bad = [value for value in kinds() if not (type(value) is int and 5 <= value <= 60)] + [4, 61, 3, 0, -5, 100]
        self.check_wrong(simplicial_count, {}, "many", InvalidMany, bad)

    def test_wrong_bodies_and_numbers_of_their_corners(self):
        bodies = kinds() + [SQUARE, [Body(SQUARE)], Body]
        good = {"body": Body(SQUARE), "many": 2}
        self.check_wrong(is_neighbourly, good, "body", InvalidBody, bodies)
        self.check_wrong(most_neighbourly, {}, "body", InvalidBody, bodies)
        bad = [value for value in kinds() if not (type(value) is int and 0 <= value <= 4)] + [5, 9, -2]
        self.check_wrong(is_neighbourly, good, "many", InvalidMany, bad)
        self.check_wrong(is_neighbourly, {"body": simplex(9), "many": 2}, "many", InvalidMany, [10, -1, True])
        self.check_first(is_neighbourly, good, {"body": SQUARE, "many": 5}, [InvalidBody, InvalidMany])
