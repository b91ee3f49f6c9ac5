"""Points, their size, and their sums to nought in steps."""
from fewcorners.elimination import in_steps, over_head, relations
from fewcorners.errors import InvalidPoints
from fewcorners.tables import columns_of, is_table


def is_points(value):
    """Whether the value is points: 2 to 9 lists, alike long, of 1 to 8 numbers."""
    return is_table(value, 2, 9, 8)


def check_points(points):
    """InvalidPoints unless points."""
    if not is_points(points):
        raise InvalidPoints(points)


def with_ones(points):
    """The points with a 1 behind each: sums to nought of them add up to 0 there."""
    return [[*point, 1] for point in points]


def whole_sums(points):
    """The told sums of points, each times a number other than 0 that makes it whole."""
    return relations(with_ones(points))


def whole_spokes(points):
    """The spokes in these whole sums: the told ones in letters of a table that is 0 but on its diagonal.

    So lots of them balance by the same numbers as those of the told ones.
    """
    return columns_of(whole_sums(points), len(points))


def size(points):
    """How many of the differences of the points and the first one are free."""
    check_points(points)
    return len(in_steps(with_ones(points))) - 1


def excess(points):
    """How many sums to nought of the points are free."""
    check_points(points)
    return len(whole_sums(points))


def told_sums(points):
    """The one list in steps of which all sums to nought are made."""
    check_points(points)
    return [over_head(row) for row in whole_sums(points)]


def spokes(points):
    """The spokes of all points."""
    return columns_of(told_sums(points), len(points))
