"""Promises [5], [6], [8], [54], [91]: values of the sorts, and their written forms."""
import unittest

from fewcorners.bodies import Body
from fewcorners.errors import InvalidSort, InvalidValue
from fewcorners.ratios import Ratio
from fewcorners.texts import is_of_sort, sorts, written
from tests.helpers import Wrong, any_kinds, fraction, kinds, told_otherwise
from tests.samples import SQUARE, told_points
from tests.test_wheels import FIVE, GOOD, NEARLY, RING, THREE
from tests.test_words import words_of

SORTS = ["points", "wheel", "word", "lot", "form", "numbers"]
LONG = 10 ** 700 + 1
# By sort values and their written forms: the shortest and the longest ones, numbers below 0, Ratios, tuples.
FORMS = {
    "points": [
        ([[0], [0]], "points\nat 0\nat 0\n"), (((1, 0), (0, 1)), "points\nat 1 0\nat 0 1\n"),
        ([[1, 0], [0, Ratio(1, 2)]], "points\nat 1 0\nat 0 1/2\n"), ([[Ratio(4, 2)], (-7,)], "points\nat 2\nat -7\n"),
        ([[Ratio(-6, 4), 10], [100, -20], [0, 0]], "points\nat -3/2 10\nat 100 -20\nat 0 0\n"),
        ([[at] * 8 for at in range(9)], "points\n" + "".join(f"at{f' {at}' * 8}\n" for at in range(9))),
        ([[LONG], [Ratio(-1, LONG)]], f"points\nat {LONG}\nat -1/{LONG}\n"),
    ],
    "wheel": [
        (RING, "wheel 1 -1 1 -1\n"), (THREE, "wheel 1,0 1,0 0,1 0,1 -1,-1 -1,-1\n"),
        (((1,), (-1,), [1], [-1], [0]), "wheel 1 -1 1 -1 0\n"),
        ([[2], [Ratio(1, 2)], [-1], [Ratio(-3, 2)]], "wheel 2 1/2 -1 -3/2\n"),
        ([[0, 0]] * 3 + THREE, "wheel 0,0 0,0 0,0 1,0 1,0 0,1 0,1 -1,-1 -1,-1\n"), (FIVE, "wheel 1,1 -2,1 -1,-3 2,-2 0,3\n"),
    ],
    "word": [
        ((0, [2, 2]), "word 0 2 2\n"), ((2, []), "word 2\n"), ((9, ()), "word 9\n"), ((5, (2, 2)), "word 5 2 2\n"),
        ((0, [0, 1] * 9), "word 0" + " 0 1" * 9 + "\n"), ((1, [2] * 4), "word 1 2 2 2 2\n"),
    ],
    "lot": [([], "lot\n"), ((), "lot\n"), ([0], "lot 0\n"), ((8,), "lot 8\n"), ([0, 2, 8], "lot 0 2 8\n"),
            (list(range(9)), "lot 0 1 2 3 4 5 6 7 8\n")],
    "form": [
        (([0], 0), "form 0\nnormal 0\n"), (([-1, -1], 1), "form 1\nnormal -1 -1\n"),
        (((Ratio(1, 2), 3), Ratio(-5, 3)), "form -5/3\nnormal 1/2 3\n"), (([1] * 8, Ratio(4, 2)),
                                                                          "form 2\nnormal" + " 1" * 8 + "\n"),
    ],
    "numbers": [
        ([0], "numbers 0\n"), ((1, -2), "numbers 1 -2\n"), ([Ratio(1, 2), Ratio(-10, 4), Ratio(6, 3)], "numbers 1/2 -5/2 2\n"),
        ([7] * 40, "numbers" + " 7" * 40 + "\n"), ([LONG, -LONG, Ratio(LONG, 7)], f"numbers {LONG} -{LONG} {LONG}/7\n"),
    ],
}
# By sort values that are none of it, each for one reason.
NONE = {
    "points": [[[0]], [[0]] * 10, [[0] * 9] * 2, [[], []], [[0], [0, 1]], [[0], [True]], [[0], ["0"]], [0, 1], ([0], None),
               {0: [0], 1: [1]}],
    "wheel": NEARLY,
    "word": [(0, [1, 3]), [0, [2, 2]], (0, [3, 2]), (0, []), (1, []), (10, []), (0, [2, 2], 0), (True, [2, 2]),
             (0, [2, Ratio(2)]),
             (0, [2, 0] * 3), (6, [2, 2]), (-1, [2, 2]), (0, 2, 2)],
    "lot": [[9], [0, 9], [1, 0], [0, 0], [-1], [True], [0, Ratio(1)], ["0"], [None], {0, 1}, "01", range(2), 0, [[0]],
            [0, True]],
    "form": [([], 0), ([0] * 9, 0), [[0], 0], ([0],), ([0], 0, 0), ([0], True), ([False], 0), ([0], None), ([0], [0]),
             (0, [0]), ([[0]], 0),
             ([0], "0"), (0, 0), ("0", 0)],
    "numbers": [[], (), [0] * 41, [True], [0, False], ["0"], [None], [[0]], 0, "0", {0: 0}, {0}, range(1), ([0], 0)],
}


def is_single(text):
    """Whether the text has just one blank between words, and a line feed behind each line."""
    return text.endswith("\n") and "  " not in text and " \n" not in text and "\n " not in text and "\n\n" not in text


class SortsTest(unittest.TestCase, Wrong):
    def test_in_their_sequence(self):
        self.assertEqual(self.check_new(sorts), SORTS)
        self.assertIs(type(sorts()), list)


class IsOfSortTest(unittest.TestCase, Wrong):
    def test_values(self):
        for sort in SORTS:
            yes = [value for value, _ in FORMS[sort]]
            self.check_asked(is_of_sort, {"sort": sort}, "value", True, yes + [told_otherwise_of(sort, value) for value in yes])
            self.check_asked(is_of_sort, {"sort": sort}, "value", False, NONE[sort])

    def test_values_of_all_kinds(self):
        for value in any_kinds() + [value for values in NONE.values() for value in values]:
            for sort in SORTS:
                self.assertIs(type(is_of_sort(sort, value)), bool)
        # Nothing of all kinds is points or a wheel; nothing but empty lists is a lot.
        for sort in ("points", "wheel"):
            self.check_asked(is_of_sort, {"sort": sort}, "value", False, any_kinds())
        lots = [value for value in any_kinds() if is_of_sort("lot", value)]
        self.assertEqual(lots, [[], ()])

    def test_some_values_are_of_several_sorts(self):
        self.assertEqual([is_of_sort(sort, [0, 2]) for sort in SORTS], [False, False, False, True, False, True])
        self.assertEqual([is_of_sort(sort, RING) for sort in SORTS], [True, True, False, False, False, False])
        self.assertEqual([is_of_sort(sort, Body(SQUARE)) for sort in SORTS], [False] * 6)


def told_otherwise_of(sort, value):
    """The same value with tuples for lists, and with numbers of the other kind where these are NUMBERS."""
    if sort == "word":
        return value[0], tuple(value[1])
    return tuple(value) if sort == "lot" else told_otherwise(value)


class WrittenTest(unittest.TestCase, Wrong):
    def test_forms(self):
        for sort in SORTS:
            for value, text in FORMS[sort]:
                self.assertEqual(self.check_new(written, sort, value), text)
                self.assertEqual(written(value=told_otherwise_of(sort, value), sort=sort), text)
                self.assertTrue(is_single(text))

    def test_all_points_wheels_and_words_of_the_samples(self):
        for points in told_points():
            lines = [" ".join(["at"] + [str(fraction(number)) for number in point]) for point in points]
            self.assertEqual(written("points", points), "\n".join(["points"] + lines) + "\n")
        for wheel in GOOD:
            wanted = " ".join(",".join(str(fraction(number)) for number in spoke) for spoke in wheel)
            self.assertEqual(written("wheel", wheel), f"wheel {wanted}\n")
        for many in range(2, 8):
            for word in words_of(many):
                self.assertEqual(written("word", word), " ".join(map(str, ["word", word[0], *word[1]])) + "\n")


class WrongCallsTest(unittest.TestCase, Wrong):
    def test_wrong_sorts(self):
        bad = kinds() + ["point", "Points", "points ", "lots", "wheels", "body", ["points"], b"lot", "number", "claim", "ratio"]
        for function in (is_of_sort, written):
            self.check_wrong(function, {"sort": "lot", "value": []}, "sort", InvalidSort, bad)
            self.check_wrong(function, {"sort": "lot", "value": None}, "sort", InvalidSort, bad)

    def test_wrong_values(self):
        for sort in SORTS:
            bad = [value for value in kinds() if not is_of_sort(sort, value)]
            self.check_wrong(written, {"sort": sort, "value": None}, "value", InvalidValue, NONE[sort] + bad)
        self.check_first(written, {"sort": "lot", "value": []}, {"sort": "lots", "value": [1, 0]}, [InvalidSort, InvalidValue])
