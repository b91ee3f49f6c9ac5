"""Promises [54], [81]: all words of so many corners, listed and counted."""
import unittest

from fewcorners.bodies import simplex
from fewcorners.errors import InvalidMany, TooMany
from fewcorners.listing import word_count, words_of
from fewcorners.makes import body_by, wheel_by
from fewcorners.ratios import Ratio
from fewcorners.words import is_word, word_of
from tests.helpers import Wrong, kinds, raised
from tests.test_words import words_of as words_by_all_lists

BAD_MANY = [value for value in kinds() if not (type(value) is int and 2 <= value <= 9)] + [10, 1, -2, 100, [5], Ratio(5)]
BAD_EXCESS = [value for value in kinds() if not (type(value) is int and 0 <= value <= 2)] + [3, -1, 4, [1], Ratio(1)]


def excess_of(word):
    return min(len(word[1]) // 2, 2)


class WordsOfTest(unittest.TestCase, Wrong):
    def test_all_that_are_words(self):
        for many in range(2, 10):
            for excess in range(3 if many < 8 else 2):
                told = self.check_new(words_of, many, excess)
                self.assertEqual(told, sorted(word for word in words_by_all_lists(many) if excess_of(word) == excess))
                self.assertEqual([words_of(excess=excess, many=many), words_of(many, excess=excess)], [told, told])
                for word in told:
                    self.assertIs(is_word(word), True)
                    self.assertEqual([type(word), type(word[0]), type(word[1]), word[0] + sum(word[1])],
                                     [tuple, int, list, many])
                    self.assertLessEqual({type(number) for number in word[1]}, {int})

    def test_each_is_that_of_some_body(self):
        for many in range(2, 8):
            for excess in range(3):
                for word in words_of(many, excess):
                    body = body_by(wheel_by(word)) if excess else simplex(many)
                    self.assertEqual([word_of(body), body.many, body.excess], [word, many, excess])

    def test_some(self):
        self.assertEqual([words_of(many, 0) for many in (2, 4, 9)], [[(2, [])], [(4, [])], [(9, [])]])
        self.assertEqual(words_of(6, 1), [(0, [2, 4]), (0, [3, 3]), (1, [2, 3]), (2, [2, 2])])
        self.assertEqual([words_of(many, 1) for many in (2, 3, 4)], [[], [], [(0, [2, 2])]])
        self.assertEqual([words_of(many, 2) for many in (2, 3, 4, 5)], [[], [], [], [(0, [0, 1] * 5)]])
        self.assertEqual(words_of(6, 2), [
            (0, [0, 1, 0, 1, 0, 1, 0, 1, 0, 2]), (0, [0, 1, 0, 1, 0, 1, 0, 1, 1, 1]), (0, [0, 1, 1, 0, 1, 1, 0, 2]),
            (0, [0, 1, 1, 0, 1, 1, 1, 1]), (0, [0, 2, 0, 2, 0, 2]), (0, [1, 1, 1, 1, 1, 1]), (1, [0, 1] * 5)])


class WordCountTest(unittest.TestCase, Wrong):
    def test_the_numbers_of_the_document(self):
        for many in range(2, 10):
            size = many - 2
            self.assertEqual([word_count(many, 0), word_count(many, 1)], [1, size * size // 4])
        self.assertEqual([word_count(many, 2) for many in range(2, 8)], [0, 0, 0, 1, 7, 31])
        self.assertEqual([len([word for word in words_of(many, 2) if word[0] == 0]) for many in (5, 6, 7)], [1, 6, 24])

    def test_it_is_the_length_of_the_list(self):
        for many in range(2, 10):
            for excess in range(3 if many < 8 else 2):
                told = word_count(excess=excess, many=many)
                self.assertEqual([told, type(told)], [len(words_of(many, excess)), int])


class WrongCallsTest(unittest.TestCase, Wrong):
    def test_wrong_values(self):
        for function in (words_of, word_count):
            good = {"many": 5, "excess": 1}
            self.check_wrong(function, good, "many", InvalidMany, BAD_MANY)
            self.check_wrong(function, good, "excess", InvalidMany, BAD_EXCESS)
            self.check_wrong(function, dict(good, many=9), "excess", InvalidMany, BAD_EXCESS)
            self.check_wrong(function, dict(good, excess=2), "many", InvalidMany, BAD_MANY)
            self.check_first(function, good, {"many": 10, "excess": 3}, [InvalidMany, InvalidMany])

    def test_too_many_corners(self):
        for function in (words_of, word_count):
            for many in (8, 9):
                for told in (raised(function, many, 2), raised(function, excess=2, many=many)):
                    self.assertEqual([type(told), told.what, told.limit], [TooMany, "corners", 7])
                self.assertIsNone(raised(function, many, 1))
            self.assertIsNone(raised(function, 7, 2))
