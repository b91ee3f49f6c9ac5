"""Promise [2]: INTEGERS and COUNTS."""
import unittest
from enum import IntEnum

from fewcorners.basics import is_count, is_integer
from fewcorners.ratios import Ratio
from tests.helpers import Wrong, any_kinds


class Grade(IntEnum):
    LOW = 3


def is_plain_int(value):
    return type(value) is int


class BasicsTest(unittest.TestCase, Wrong):
    def test_integers(self):
        self.check_asked(is_integer, {}, "value", True, [0, 1, -1, 10 ** 300, -10 ** 300, Grade.LOW])

    def test_counts(self):
        self.check_asked(is_count, {}, "value", True, [0, 1, 2, 10 ** 300])
        self.check_asked(is_count, {}, "value", False, [-1, -10 ** 300, Ratio(1), Ratio(0)])

    def test_true_and_false_are_none(self):
        self.check_asked(is_integer, {}, "value", False, [True, False])
        self.check_asked(is_count, {}, "value", False, [True, False])

    def test_values_of_all_other_kinds(self):
        others = [value for value in any_kinds() if not is_plain_int(value)]
        self.assertGreater(len(others), 40)
        self.check_asked(is_integer, {}, "value", False, others)
        self.check_asked(is_count, {}, "value", False, others)
