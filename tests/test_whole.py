"""Promise [4], over the whole program: both papers, wheels, one word, all of them; and what [2] asks of all answers."""
import inspect
import itertools
import random
import unittest

from fewcorners.balances import is_balanced
from fewcorners.bodies import Body, simplex
from fewcorners.claims import contrary, is_paper_of, is_true, paper_of
from fewcorners.desk import Desk
from fewcorners.faces import is_face
from fewcorners.figures import figure, figure_face
from fewcorners.kinds import is_simplicial, numbers_by
from fewcorners.likeness import alike, is_alike, own_maps
from fewcorners.listing import words_of
from fewcorners.lists import face_numbers, facets
from fewcorners.makes import body_by, wheel_by
from fewcorners.ratios import Ratio
from fewcorners.readers import read
from fewcorners.texts import written
from fewcorners.words import word_of
from tests.helpers import Wrong, all_lots, few_points, is_sum_of, kinds, longest, raised, some_lots
from tests.samples import random_points, some_bodies
from tests.test_interface import CLASSES, FUNCTIONS, module


def all_words(most):
    return [word for many in range(2, most + 1) for excess in range(3) for word in words_of(many, excess)]


def body_of(word):
    return body_by(wheel_by(word)) if word[1] else simplex(word[0])


class BothPapersTest(unittest.TestCase, Wrong):
    def check_claim(self, claim):
        """Just one of the claim and its contrary is true, and has a paper; no value is a paper of both."""
        other = contrary(claim)
        papers = [paper_of(claim), paper_of(other)]
        self.assertEqual([paper is not None for paper in papers], [is_true(claim), is_true(other)])
        self.assertNotEqual(is_true(claim), is_true(other))
        for paper in papers:
            if paper is not None:
                self.assertEqual([is_paper_of(claim, paper), is_paper_of(other, paper)], [is_true(claim), is_true(other)])

    def test_a_point_is_a_corner_or_a_mixture(self):
        for points in few_points(101, 60):
            for place in range(len(points)):
                self.check_claim(("corner", points, place))

    def test_a_lot_is_a_face_or_numbers_show_that_it_is_none(self):
        for word in all_words(6):
            body = body_of(word)
            for lot in all_lots(body.many):
                self.check_claim(("face", body, lot))

    def test_wheels_and_bodies(self):
        for at, word in enumerate(all_words(7)[::5]):
            body = body_of(word)
            if body.excess:
                for lot in some_lots(at, body.many, 12):
                    self.check_claim(("tipped", body.wheel(), lot))
            self.check_claim(("folded", body))
            self.check_claim(("unlike", body, simplex(5)))


class WheelsTest(unittest.TestCase, Wrong):
    def test_a_lot_is_a_face_exactly_if_the_spokes_of_all_others_balance(self):
        for at, body in enumerate(some_bodies()):
            if body.excess:
                for lot in some_lots(at, body.many, 40):
                    others = [other for other in range(body.many) if other not in lot]
                    self.assertIs(is_face(body, lot), is_balanced(body.wheel(), others))


class OneWordTest(unittest.TestCase, Wrong):
    def test_two_bodies_have_the_same_faces_exactly_if_their_words_are_the_same(self):
        chance = random.Random(102)
        bodies = [body_of(word) for word in all_words(6)] + [Body(points) for points in random_points() if len(points) < 7]
        for body, other in itertools.combinations_with_replacement(bodies, 2):
            points = other.points()
            chance.shuffle(points)
            other = Body(points)
            told = alike(body, other)
            self.assertEqual(told is not None, word_of(body) == word_of(other))
            self.assertIs(is_alike(body, other, told), told is not None)
            if body.many == other.many == 5:
                found = [sorted(sorted(names[at] for at in lot) for lot in facets(body)) == facets(other)
                         for names in itertools.permutations(range(5))]
                self.assertEqual(sum(found), own_maps(body) if told else 0)


class AllOfThemTest(unittest.TestCase, Wrong):
    def test_each_word_is_that_of_some_body_which_is_made_with_fractions(self):
        for word in all_words(7):
            body = body_of(word)
            self.assertEqual([word_of(body), face_numbers(body)], [word, numbers_by(word)])
            self.assertIs(is_simplicial(word), is_true(("simplicial", body)))
            self.assertEqual({type(number) for point in body.points() for number in point}, {Ratio})
            for told in [[numbers[at] for numbers in body.wheel()] for at in range(body.excess)]:
                self.assertTrue(is_sum_of(body.points(), told))
            self.assertLess(longest(body.points()), 2000)

    def test_the_word_of_each_body_is_listed(self):
        for body in some_bodies():
            if body.many < 8 or body.excess < 2:
                self.assertIn(word_of(body), words_of(body.many, body.excess))

    def test_what_is_made_goes_through_texts_figures_and_the_desk(self):
        for word in all_words(7)[::3]:
            desk = Desk()
            if word[1]:
                desk.do_all("worded w " + " ".join(map(str, [word[0], *word[1]])), "spun b w")
            else:
                desk.do(f"simplex b {word[0]}")
            body = desk["b"]
            self.assertEqual([desk.do("numbers b"), word_of(body)], [" ".join(map(str, numbers_by(word))), word])
            self.assertEqual(read(written("points", body.points())), ("points", body.points()))
            self.assertEqual(read(written("word", word)), ("word", word))
            if body.size > 1:
                self.assertIs(figure_face(body, 0, []), True)
                self.assertEqual(figure(body, 0).size, body.size - 1)


class ConventionsTest(unittest.TestCase, Wrong):
    def test_what_tells_whether_a_value_is_something_never_fails(self):
        """Functions that are asked about any value alone tell it by a bool."""
        asked = [getattr(module(name), function) for name, functions in FUNCTIONS.items() for function,
                 names in functions.items()
                 if function.startswith("is_") and names == "value"]
        self.assertEqual(len(asked), 10)
        for function in asked:
            for value in kinds() + some_bodies()[:2] + [Desk(), Desk, Ratio, ((),), [[[[]]]], {"points": []}]:
                self.assertIs(type(function(value)), bool)

    def test_all_errors_are_raised_by_name_too(self):
        """Each function takes its arguments by the names of the interface; no parameter has another default than told."""
        for name, functions in FUNCTIONS.items():
            for function in functions:
                for parameter in inspect.signature(getattr(module(name), function)).parameters.values():
                    self.assertEqual([parameter.kind, parameter.default], [inspect.Parameter.POSITIONAL_OR_KEYWORD,
                                                                           inspect.Parameter.empty])

    def test_objects_are_not_iterated_over_and_not_equal_to_others(self):
        self.assertIs(type(raised(iter, Desk())), TypeError)
        self.assertEqual([Desk() == Desk(), Body([[0], [1]]) == [[0], [1]], Ratio(1) == 1], [False] * 3)
        self.assertEqual({known for _, known in CLASSES}, {"Ratio", "Body", "Desk", "Trial"})
