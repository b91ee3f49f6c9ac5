"""Bodies and wheels of all sorts, for the tests of what is told of them."""
import functools
import random

from fewcorners.bodies import Body
from fewcorners.corners import corner_places
from fewcorners.ratios import Ratio
from tests.helpers import few_points
from tests.test_wheels import GOOD, least_side, some_lists, some_tables, times

SQUARE = [[0, 0], [1, 0], [1, 1], [0, 1]]
PENTAGON = [[0, 2], [2, 1], [1, -2], [-1, -2], [-2, 1]]
SIX = [[1, 0, 0], [-1, 0, 0], [0, 1, 0], [0, -1, 0], [0, 0, 1], [0, 0, -1]]
PRISM = [[0, 0, 0], [1, 0, 0], [0, 1, 0], [0, 0, 1], [1, 0, 1], [0, 1, 1]]
BIPYRAMID = [[0, 0, 0], [3, 0, 0], [0, 3, 0], [1, 1, 1], [1, 1, -1]]


def over(points):
    """The points and one above them all, for a peak more."""
    return [[*point, 0] for point in points] + [[0] * len(points[0]) + [1]]


def curved(many, size):
    """So many points on a curve that is bent in each direction: corners of a body with many faces."""
    return [[at ** power for power in range(1, size + 1)] for at in range(many)]


def corners_of(many):
    """The points of a simplex."""
    return [[0] * (many - 1)] + [[int(row == at) for at in range(many - 1)] for row in range(many - 1)]


def flat(points, more):
    """The same points in so many directions more."""
    return [[*point, *[point[0] * 3 - at for at in range(more)]] for point in points]


def beside_one_another(points, others):
    """The points of two bodies, set into directions of their own, and one apart in one more."""
    wide, its = len(points[0]), len(others[0])
    return [[*point, *[0] * its, 0] for point in points] + [[*[0] * wide, *point, 1] for point in others]


def told_points():
    """Points of bodies with the excess 0, 1 and 2, with peaks and without, flat in more directions and not."""
    return [
        [[0], [1]], [[5, 5, 5], [5, 5, 6]], [[Ratio(1, 2), 0], [0, Ratio(1, 3)], [-1, -1]], corners_of(5), corners_of(9),
        SQUARE, [[0, 0], [2, 0], [1, 3], [1, -1]], over(SQUARE), over(over(SQUARE)), BIPYRAMID, curved(6, 4), flat(SQUARE, 6),
        [[0, 0], [Ratio(7, 3), 1], [2, Ratio(9, 2)], [-1, Ratio(7, 5)]], curved(8, 6), over(BIPYRAMID),
        PENTAGON, SIX, PRISM, over(PENTAGON), over(over(PENTAGON)), curved(7, 4), curved(9, 6), flat(PRISM, 2),
        over(SIX), beside_one_another(SQUARE, SQUARE), beside_one_another(SQUARE, [[0], [1]]), curved(6, 3), curved(7, 5),
        [[at, at * at] for at in (Ratio(1, 2), -3, 0, Ratio(-7, 3), 2)], PENTAGON[2:] + PENTAGON[:2],
        [[Ratio(number, at + 2) for number in point] for at, point in enumerate(SIX)], PRISM[::-1],
    ]


@functools.cache
def random_points():
    """Points of bodies that came by chance."""
    return [points for points in few_points(61, 150) if corner_places(points) == list(range(len(points)))][:24]


@functools.cache
def some_bodies():
    return [Body(points) for points in told_points() + random_points()]


@functools.cache
def some_wheels():
    """Wheels of one and of two numbers: of bodies, in letters, and others."""
    chance = random.Random(62)
    found = [list(map(list, rows)) for rows in GOOD]
    found += [body.wheel() for body in some_bodies() if body.excess > 0][::2]
    found += [rows for rows in some_lists(63, 120) if least_side(rows) >= 2][:40]
    lettered = [times(rows, some_tables(64 + at, len(rows[0]), 1)[0]) for at, rows in enumerate(found[::3])]
    for rows in found[::4]:
        chance.shuffle(rows)
    return found + lettered
