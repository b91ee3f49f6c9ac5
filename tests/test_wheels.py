"""Promises [8], [31] to [33]: wheels, peaks, letters, lines."""
import random
import unittest

from fewcorners.errors import InvalidNumbers, InvalidTable, InvalidWheel
from fewcorners.ratios import Ratio
from fewcorners.wheels import beyond, in_letters, is_wheel, least_beyond, letters, peaks
from tests.helpers import Wrong, any_kinds, fraction, kinds, product_sum, raised, rank, some_numbers

THREE = [[1, 0], [1, 0], [0, 1], [0, 1], [-1, -1], [-1, -1]]
RING = [[1], [-1], [1], [-1]]
FIVE = [[1, 1], [-2, 1], [-1, -3], [2, -2], [0, 3]]
LONG = 10 ** 45 + 1

GOOD = [
    THREE, RING, FIVE, ((1,), (-1,), [1], [-1]), [[1], [1], [-1], [-1], [0]], [[2], [Ratio(1, 2)], [-1], [Ratio(-3, 2)]],
    [[1, 0], [1, 0], [-1, 0], [-1, 0], [0, 1], [0, 1], [0, -1], [0, -1], [0, 0]], [[0, 0]] * 3 + THREE,
    [[LONG], [Ratio(1, LONG)], [-LONG], [Ratio(-1, LONG)]], [[1], [1], [1], [1], [1], [-1], [-1], [-1], [-2]],
    [[1, 0], [0, 1], [1, 1], [-1, -1], [-1, 0], [0, -1]],
]
NEARLY = [
    [], RING[:3], [[1]] * 5 + [[-1]] * 5, [[1], [-1], [0], [0]], [[1], [1], [1], [-3]], [[3], [-1], [-1], [-1]],
    [[0]] * 4, [[0, 0]] * 4, [[1], [1], [-1], [-2]], [[1, 0]] * 6, [[1, 0], [1, 0], [-1, 0], [-1, 0]],
    [[1, 0], [0, 1], [-1, 0], [0, -1]], [[1, 0], [2, 1], [2, -1], [-2, 1], [-3, -1]],
    [[1, 0], [1, 0], [0, 1], [0, 1], [-2, -2]], [[1, 0], [1, 0], [0, 1], [0, 1], [-2, -1], [0, 0]],
    [[], [], [], []], [[1, 0, 0], [1, 0, 0], [-1, 0, 0], [-1, 0, 0]], [[1], [-1], [1, 0], [-1]], [1, -1, 1, -1],
    [[1], [-1], [True], [-1]], [[1], [-1], ["1"], [-1]], [[1], [-1], [1], None], {0: [1], 1: [-1], 2: [1], 3: [-1]},
    [{0: 1}, {0: -1}, {0: 1}, {0: -1}], "1111", [[1], [-1], [1], [[-1]]], (RING,), [[1], [1], [-1], [-1], [False]],
]


def least_side(spokes):
    """The least number of spokes beyond any line, from normals all round: the spokes have numbers up to three."""
    if len(spokes[0]) == 1:
        normals = [[1], [-1]]
    else:
        normals = [[x, y] for x in range(-7, 8) for y in range(-7, 8) if x or y]
    return min(sum(product_sum(normal, spoke) > 0 for spoke in spokes) for normal in normals)


def some_lists(seed, many):
    """Lists of 4 to 9 lists that add up to nought, of one number or two, wheels and others."""
    chance = random.Random(seed)
    found = []
    while len(found) < many:
        wide = chance.randint(1, 2)
        rows = [some_numbers(chance, wide, 2) for _ in range(chance.randint(3, 8))]
        last = [-sum(row[at] for row in rows) for at in range(wide)]
        if all(abs(number) <= 3 for number in last):
            found.append(rows + [last])
    return found


def some_wheels():
    return GOOD + [rows for rows in some_lists(41, 150) if is_wheel(rows)]


def some_tables(seed, wide, many=6):
    """Tables that can be undone."""
    chance = random.Random(seed)
    found = []
    while len(found) < many:
        rows = [some_numbers(chance, wide, 4, True) for _ in range(wide)]
        if rank(rows) == wide:
            found.append(rows)
    return found


def times(rows, table):
    """All spokes times the table, by fractions."""
    made = [[sum(fraction(number) * fraction(table[at][column]) for at, number in enumerate(row))
             for column in range(len(table))] for row in rows]
    return [[Ratio(number.numerator, number.denominator) for number in row] for row in made]


class IsWheelTest(unittest.TestCase, Wrong):
    def test_wheels(self):
        self.check_asked(is_wheel, {}, "value", True, GOOD)

    def test_no_wheels(self):
        self.check_asked(is_wheel, {}, "value", False, NEARLY + any_kinds())

    def test_by_lines_all_round(self):
        found = {True: 0, False: 0}
        for rows in some_lists(42, 150):
            wanted = least_side(rows) >= 2
            self.assertIs(is_wheel(rows), wanted, rows)
            found[wanted] += 1
        self.assertGreater(min(found.values()), 30)

    def test_it_must_add_up_to_nought(self):
        for rows in some_wheels():
            for at in range(len(rows[0])):
                off = [list(row) for row in rows]
                off[0][at] = off[0][at] + Ratio(1, 1000)
                self.assertIs(is_wheel(off), False)

    def test_numbers_count_by_their_worth(self):
        for rows in some_lists(43, 60):
            self.assertIs(is_wheel(tuple(tuple(Ratio(number) for number in row) for row in rows)), is_wheel(rows))

    def test_invalid_wheels(self):
        for function, good in ((peaks, {"wheel": RING}), (least_beyond, {"wheel": RING}),
                               (in_letters, {"wheel": RING, "table": [[1]]}), (beyond, {"wheel": RING, "normal": [1]}),
                               (letters, {"wheel": RING, "other": RING})):
            self.check_wrong(function, good, "wheel", InvalidWheel, NEARLY + kinds())
        self.check_wrong(letters, {"wheel": RING, "other": RING}, "other", InvalidWheel, NEARLY + kinds())
        self.check_first(letters, {"wheel": RING, "other": RING}, {"wheel": [[1]], "other": None}, [InvalidWheel] * 2)


class PeaksTest(unittest.TestCase, Wrong):
    def test_peaks(self):
        self.assertEqual(peaks([[1], [1], [0], [-1], [-1]]), [2])
        self.assertEqual(peaks([[0, 0]] * 2 + THREE + [[Ratio(0), 0]]), [0, 1, 8])
        self.assertEqual([peaks(THREE), peaks(wheel=RING)], [[], []])
        self.assertEqual(peaks(FIVE), [])

    def test_all_numbers_must_be_nought(self):
        for rows in some_wheels():
            wanted = [at for at, row in enumerate(rows) if all(fraction(number) == 0 for number in row)]
            self.assertEqual(self.check_new(peaks, rows), wanted)


class LettersTest(unittest.TestCase, Wrong):
    def test_each_spoke_times_the_table(self):
        for rows in some_wheels():
            for table in some_tables(44, len(rows[0])):
                told = self.check_new(in_letters, rows, table)
                self.assertEqual(told, times(rows, table))
                self.assertEqual(in_letters(wheel=rows, table=tuple(map(tuple, table))), told)
                self.assertEqual({type(number) for spoke in told for number in spoke}, {Ratio})
                self.assertIs(is_wheel(told), True)

    def test_the_table_is_told_back(self):
        for rows in some_wheels():
            for table in some_tables(45, len(rows[0])):
                other = in_letters(rows, table)
                told = self.check_new(letters, rows, other)
                self.assertEqual(told, table)
                self.assertEqual({type(number) for row in told for number in row}, {Ratio})
                self.assertEqual(in_letters(other, letters(wheel=other, other=rows)), in_letters(rows, letters(rows, rows)))

    def test_of_a_wheel_to_itself(self):
        self.assertEqual(letters(RING, RING), [[Ratio(1)]])
        self.assertEqual(letters(THREE, THREE), [[Ratio(1), Ratio(0)], [Ratio(0), Ratio(1)]])

    def test_a_row_is_taken_by_number_and_a_column_is_made(self):
        self.assertEqual(in_letters(THREE, [[1, 2], [3, 4]])[:3], [[Ratio(1), Ratio(2)]] * 2 + [[Ratio(3), Ratio(4)]])
        self.assertEqual(letters(THREE, in_letters(THREE, [[1, 2], [3, 4]])), [[Ratio(1), Ratio(2)], [Ratio(3), Ratio(4)]])

    def test_no_table(self):
        for rows in (RING, THREE, FIVE):
            self.assertIsNone(letters(rows, rows + [[0] * len(rows[0])]))
            self.assertIsNone(letters(rows + [[0] * len(rows[0])], rows))
        self.assertIsNone(letters(RING, [[1], [1], [-1], [-1]]))
        self.assertIsNone(letters([[1], [1], [-1], [-1], [0], [0]], THREE))
        self.assertIsNone(letters(THREE, [[1], [1], [-1], [-1], [0], [0]]))
        self.assertIsNone(letters(THREE, THREE[1:] + THREE[:1]))
        self.assertEqual(letters(THREE, THREE[2:] + THREE[:2]), [[Ratio(0), Ratio(1)], [Ratio(-1), Ratio(-1)]])

    def test_none_exactly_if_no_table_leads_there(self):
        wheels = [rows for rows in some_wheels() if len(rows) in (5, 6)]
        seen = 0
        for rows in wheels:
            for other in wheels:
                if len(rows) == len(other) and len(rows[0]) == len(other[0]):
                    beside = [list(row) + list(its) for row, its in zip(rows, other)]
                    told = letters(rows, other)
                    self.assertEqual(told is None, rank(beside) > len(rows[0]))
                    if told is not None:
                        seen += 1
                        self.assertEqual(times(rows, told), times(other, [[int(row == at) for at in range(len(other[0]))]
                                                                          for row in range(len(other[0]))]))
        self.assertGreater(seen, len(wheels) - 1)

    def test_wrong_tables(self):
        common = kinds() + [{0: [1]}, "1", [1], [["1"]], [[True]], [[None]], [[[1]]]]
        one = common + [[[0]], [[1], [1]], [[1, 0]], [[1, 0], [0, 1]], [[Ratio(0)]], [[]]]
        self.check_wrong(in_letters, {"wheel": RING, "table": [[1]]}, "table", InvalidTable, one)
        two = common + [
            [[1]], [[1, 0]], [[1], [0]], [[1, 2], [2, 4]], [[0, 0], [0, 0]], [[0, 1], [0, 1]], [[1, 0], [0]], [[1, 0, 0], [0, 1, 0]],
            [[1, 0], [0, 1], [0, 0]], [[1, 0], [0, True]], [[1, 0], None], [[1, Ratio(1, 2)], [2, 1]],
        ]
        self.check_wrong(in_letters, {"wheel": THREE, "table": [[1, 0], [0, 1]]}, "table", InvalidTable, two)
        self.check_first(in_letters, {"wheel": RING, "table": [[1]]}, {"wheel": [], "table": []}, [InvalidWheel, InvalidTable])


class LinesTest(unittest.TestCase, Wrong):
    def test_beyond(self):
        self.assertEqual([beyond(THREE, [1, 0]), beyond(THREE, (-1, 0)), beyond(THREE, [1, -1])], [[0, 1], [4, 5], [0, 1]])
        self.assertEqual([beyond(RING, [5]), beyond(wheel=RING, normal=[Ratio(-1, 9)])], [[0, 2], [1, 3]])
        self.assertEqual([beyond(THREE, [1, 1]), beyond(THREE, [-1, -1])], [[0, 1, 2, 3], [4, 5]])

    def test_nothing_is_beyond_a_normal_of_noughts(self):
        self.assertEqual([beyond(THREE, [0, 0]), beyond(RING, [0]), beyond(RING, (Ratio(0),))], [[], [], []])

    def test_beyond_by_products(self):
        chance = random.Random(46)
        for rows in some_wheels():
            for _ in range(4):
                normal = some_numbers(chance, len(rows[0]), 5, True)
                wanted = [at for at, row in enumerate(rows) if product_sum(row, normal) > 0]
                self.assertEqual(self.check_new(beyond, rows, normal), wanted)

    def test_least_beyond(self):
        self.assertEqual([least_beyond(THREE), least_beyond(RING), least_beyond(wheel=FIVE)], [2, 2, 2])
        self.assertEqual(least_beyond([[1], [1], [1], [1], [-1], [-1], [-2]]), 3)
        self.assertEqual(least_beyond([[1, 0]] * 3 + [[0, 1]] * 3 + [[-1, -1]] * 3), 3)
        ring = [[3, 1], [1, 3], [-2, 3], [-4, 1], [-2, -3], [1, -4], [3, -1]]
        self.assertIs(is_wheel(ring), True)
        self.assertEqual(least_beyond(ring), 3)

    def test_least_beyond_by_lines_all_round(self):
        for rows in some_wheels():
            if all(abs(fraction(number)) <= 3 for row in rows for number in row):
                self.assertEqual(least_beyond(rows), least_side(rows))
                self.assertIs(type(least_beyond(rows)), int)

    def test_wrong_normals(self):
        bad = [[], [1], [1, 2, 3], [1, True], [1, "2"], [1, None], {0: 1, 1: 2}, "12", [[1, 2]], {1, 2}, b"12", (1, [2])]
        self.check_wrong(beyond, {"wheel": THREE, "normal": [1, 0]}, "normal", InvalidNumbers, bad + kinds())
        bad = [[], [1, 2], (), [True], ["1"], [None], [[1]], 1, "1", {0: 1}]
        self.check_wrong(beyond, {"wheel": RING, "normal": [1]}, "normal", InvalidNumbers, bad)
        self.check_first(beyond, {"wheel": RING, "normal": [1]}, {"wheel": RING[:3], "normal": [1, 2]},
                         [InvalidWheel, InvalidNumbers])
        self.assertEqual(raised(beyond, RING, [1, 0]).value, [1, 0])
