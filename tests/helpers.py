"""What several tests need: values of all kinds, wrong calls, and reckoning of their own with fractions."""
import copy
import itertools
import random
from fractions import Fraction

from fewcorners.ratios import Ratio


class Thing:
    """A value of a kind that the package knows nothing of."""


def kinds():
    """Values of every kind but floats, of which none is points, a wheel, a form, a Body, or a list of a NUMBER or more."""
    return [
        None, True, False, 0, 1, -1, 2, 7, 10 ** 40, Ratio(0), Ratio(1), Ratio(2), Ratio(-1, 2),
        "", "0", "1", "[0, 1]", b"", b"1", [], (), {}, {0: 1}, {"0": [0]}, set(), {0, 1}, frozenset([1]),
        [None], [True], [False], (True, False), ["0"], ["0", "1"], [[]], [[], []], [[True], [False]], [[0], [True]],
        [["0"], ["1"]], ["ab", "cd"], [{0: 0}, {0: 1}], [{0}, {1}], [None, None], [[None], [0]], ((), ()), range(2),
        Thing(), Thing, int, len, Fraction(1), Fraction(1, 2), ValueError("0"), 1j, iter([0]), bytearray(b"01"),
    ]


def any_kinds():
    """Values of every kind, floats too: for what tells whether any value is something."""
    return kinds() + [0.0, 1.0, 0.5, float("nan"), [0.0], [[0.0], [1.0]], [0, 1.0], ([1.0], 0), ([0, 0], 1.0)]


def raised(function, *values, **named):
    """The error that a call raises."""
    try:
        function(*values, **named)
    except Exception as error:
        return error
    return None


def fraction(number):
    """A NUMBER as a Fraction of the standard library, for reckoning beside the package."""
    if isinstance(number, Ratio):
        return Fraction(number.top, number.bottom)
    assert isinstance(number, (int, Fraction)) and not isinstance(number, bool), number
    return Fraction(number)


def fractions(numbers):
    return [fraction(number) for number in numbers]


def product_sum(first, second):
    assert len(first) == len(second)
    return sum((fraction(one) * fraction(other) for one, other in zip(first, second)), Fraction(0))


def rank(rows):
    """How many of the rows are free."""
    rows = [fractions(row) for row in rows]
    done = 0
    for column in range(len(rows[0]) if rows else 0):
        found = [at for at in range(done, len(rows)) if rows[at][column]]
        if found:
            rows[done], rows[found[0]] = rows[found[0]], rows[done]
            for at in range(done + 1, len(rows)):
                times = rows[at][column] / rows[done][column]
                rows[at] = [mine - times * its for mine, its in zip(rows[at], rows[done])]
            done += 1
    return done


def size_of(points):
    """The size of points: differences and all, by fractions."""
    first = fractions(points[0])
    return rank([[mine - its for mine, its in zip(fractions(point), first)] for point in points[1:]])


def is_sum_of(points, numbers):
    """Whether the numbers are a sum to nought of the points, by fractions."""
    columns = list(zip(*points)) + [[1] * len(points)]
    return len(numbers) == len(points) and all(product_sum(column, numbers) == 0 for column in columns)


def heights_of(points, form):
    return [product_sum(form[0], point) + fraction(form[1]) for point in points]


def is_in_steps(rows):
    """Whether a list of lists of Ratios stands in steps."""
    heads = []
    for row in rows:
        places = [at for at, number in enumerate(row) if fraction(number)]
        if not places or fraction(row[places[0]]) != 1 or (heads and places[0] <= heads[-1]):
            return False
        heads.append(places[0])
    return all(fraction(rows[at][head]) == (1 if at == own else 0)
               for own, head in enumerate(heads) for at in range(len(rows)))


def some_numbers(chance, many, most=4, fractional=False):
    numbers = [chance.randint(-most, most) for _ in range(many)]
    if fractional:
        return [Ratio(number, chance.randint(1, 5)) for number in numbers]
    return numbers


def some_points(seed, many=40, most=3):
    """Points of all sorts, few and not, always the same for a seed."""
    chance = random.Random(seed)
    found = []
    for at in range(many):
        wide = chance.randint(1, 8)
        rows = [some_numbers(chance, wide, most, at % 2 == 1) for _ in range(chance.randint(2, 9))]
        if at % 5 == 0:
            rows[-1] = list(rows[0])
        found.append(rows)
    return found


def few_points(seed, many=40, most=3):
    """Points with the excess 0, 1 or 2, of sizes from 1 on; some lie flat in more directions."""
    chance = random.Random(seed)
    found = []
    while len(found) < many:
        directions = chance.randint(1, 6)
        wanted = len(found) % 3
        rows = [some_numbers(chance, directions, most, len(found) % 2 == 1) for _ in range(directions + wanted + 1)]
        if size_of(rows) == directions:
            extra = chance.randint(0, 8 - directions)
            found.append([row + [row[0] * at + 1 for at in range(extra)] for row in rows])
    return found


class Wrong:
    """For test cases: calls with a value that is not valid in one parameter, by place and by name."""

    def check_wrong(self, function, good, name, error, values, attribute="value"):
        for value in values:
            bad = dict(good)
            bad[name] = value
            for told in (raised(function, *bad.values()), raised(function, **bad)):
                self.assertIs(type(told), error, (function, name, value))
                self.assertIs(getattr(told, attribute), value)

    def check_first(self, function, good, bad, errors):
        """Of several wrong parameters the first one tells; bad has a wrong value for each, in their sequence."""
        names = list(bad)
        for at, name in enumerate(names):
            values = dict(good)
            for later in names[at:]:
                values[later] = bad[later]
            told = raised(function, **values)
            self.assertIs(type(told), errors[at], (function, name))
            self.assertIs(told.value, bad[name])

    def check_asked(self, function, good, name, valid, values):
        """Asked about any value, the function answers with a bool, by place and by name."""
        for value in values:
            asked = dict(good)
            asked[name] = value
            for answer in (function(*asked.values()), function(**asked)):
                self.assertIs(answer, valid, (function, value))

    def check_new(self, function, *values):
        """The same answer each time, but new lists down to the inner ones; what is passed stays as it was."""
        before = copy.deepcopy(values)
        first, second = function(*values), function(*values)
        self.assertEqual(first, second)
        self.assertEqual(values, before)
        self.check_apart(first, list(walk(second)) + list(walk(values)))
        for one in list(walk(first)):
            one.clear()
        self.assertEqual(function(*values), second)
        return second

    def check_apart(self, answer, others):
        marks = {id(other) for other in others}
        for one in walk(answer):
            self.assertNotIn(id(one), marks)


def longest(value):
    """How many digits the longest integer has in a value, above and below the stroke, too."""
    if isinstance(value, Ratio):
        return max(longest(value.top), longest(value.bottom))
    if isinstance(value, int):
        return len(str(abs(value)))
    return max([longest(part) for part in value], default=0)


def told_otherwise(value):
    """The same value in the other kinds that may be passed for it: tuples in the place of lists, Ratios and integers."""
    if isinstance(value, (list, tuple)):
        return tuple(told_otherwise(part) for part in value)
    if isinstance(value, Ratio):
        return value.top if value.is_whole else Ratio(value.top, value.bottom)
    return Ratio(value)


def all_lots(many):
    """All lots of places below many, by their sizes."""
    return [list(lot) for size in range(many + 1) for lot in itertools.combinations(range(many), size)]


def some_lots(seed, many, most):
    """All lots of places below many, or if these are more than most, so many of them: nothing, all and others by chance."""
    lots = all_lots(many)
    if len(lots) <= most:
        return lots
    return [[], list(range(many))] + random.Random(seed).sample(lots[1:-1], most - 2)


def bad_lots(many):
    """Values that are no lots of places below many."""
    none = [[many], [0, many], [-1], [-1, 0], [1, 0], [0, 0], [0, 1, 1], [True], [0, True], [False], [Ratio(0)], [0, Ratio(1)],
            ["0"], [[0]], [0, None], (1, 0), (0, 0), {0}, {0: 1}, "01", "0", range(2), b"", b"0", 0, 1, [10 ** 40], [-many],
            (False, 1), [[0, 1]], iter([]), {0: 0, 1: 1}.keys()]
    return none + [value for value in kinds() if not isinstance(value, (list, tuple)) or value not in ([], ())]


def bad_places(many):
    """Values that are no places below many."""
    none = [many, 10 ** 40, -1, -many, True, False, Ratio(0), Ratio(1), "0", [0], (0,), None, {0}, b"0"]
    return none + [value for value in kinds() if type(value) is not int]


def walk(value):
    """All lists and dicts in a value, through lists and tuples."""
    if isinstance(value, (list, dict)):
        yield value
    if isinstance(value, (list, tuple)):
        for part in value:
            yield from walk(part)
