"""The examples of the document: those of the interface word for word, and those within its points."""
import doctest
import os
import unittest

from fewcorners.bodies import Body
from fewcorners.ratios import Ratio
from fewcorners.steps import excess, size, told_sums
from fewcorners.sums import is_sum

HERE = os.path.dirname(os.path.abspath(__file__))


class ExamplesTest(unittest.TestCase):
    def test_interface(self):
        self.check(os.path.join(HERE, "examples.txt"), 20)

    def test_readme(self):
        self.check(os.path.join(os.path.dirname(HERE), "README.md"), 5)

    def check(self, path, least):
        failed, tried = doctest.testfile(path, module_relative=False, encoding="utf-8")
        self.assertEqual(failed, 0)
        self.assertGreater(tried, least)

    def test_four_points_of_point_12(self):
        points = ((0, 0), (1, 0), (0, 1), (1, 1))
        self.assertEqual([size(points), excess(points), is_sum(points, (1, -1, -1, 1))], [2, 1, True])
        self.assertEqual(told_sums(points), [[Ratio(1), Ratio(-1), Ratio(-1), Ratio(1)]])

    def test_wheels_of_points_1_and_36(self):
        six = Body([(1, 0, 0), (-1, 0, 0), (0, 1, 0), (0, -1, 0), (0, 0, 1), (0, 0, -1)])
        wanted = [[1, 0], [1, 0], [0, 1], [0, 1], [-1, -1], [-1, -1]]
        self.assertEqual(six.wheel(), [[Ratio(number) for number in spoke] for spoke in wanted])
        square = Body([[0, 0], [1, 0], [1, 1], [0, 1]])
        self.assertEqual(square.wheel(), [[Ratio(1)], [Ratio(-1)], [Ratio(1)], [Ratio(-1)]])
