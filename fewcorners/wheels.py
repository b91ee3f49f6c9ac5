"""Wheels, in letters and seen from lines."""
from fewcorners.balancing import dot, quarter_turns
from fewcorners.elimination import in_steps, over_head, whole
from fewcorners.errors import InvalidNumbers, InvalidTable, InvalidWheel
from fewcorners.ratios import Ratio, product_sum
from fewcorners.tables import columns_of, is_numbers, is_table


def is_wheel(value):
    """Whether the value is a wheel."""
    if not is_table(value, 4, 9, 2):
        return False
    columns = columns_of(value, len(value[0]))
    return all([Ratio.total(column).sign == 0 for column in columns]) and thinnest_side(value) >= 2


def check_wheel(wheel):
    """InvalidWheel unless a wheel."""
    if not is_wheel(wheel):
        raise InvalidWheel(wheel)


def is_nought(spoke):
    """Whether all numbers of the spoke are 0."""
    return not any(whole(spoke))


def thinnest_side(rows):
    """The least number of spokes strictly on one side of a line through nought; 0 if all are nought.

    No line has less on a side than some line on which a spoke lies, so of all
    lines only these are asked.
    """
    directions = [whole(row) for row in rows if not is_nought(row)]
    normals = [[1], [-1]] if len(rows[0]) == 1 else quarter_turns(directions)
    counts = [len([row for row in directions if dot(normal, row) > 0]) for normal in normals]
    return min(counts, default=0)


def peaks(wheel):
    """The sorted list of the positions of spokes that are nought."""
    check_wheel(wheel)
    return [at for at, spoke in enumerate(wheel) if is_nought(spoke)]


def whole_by_places(wheel):
    """The spokes of a wheel or of a simplex, at each place times a number above 0 that makes all numbers there whole.

    So lots of them balance by the same numbers as before.
    """
    columns = [whole(column) for column in columns_of(wheel, len(wheel[0]))]
    return columns_of(columns, len(wheel))


def is_letters(table, wide):
    """Whether the table has as many rows as columns, so many, and can be undone."""
    if not is_table(table, wide, wide, wide) or len(table[0]) != wide:
        return False
    return len(in_steps(table)) == wide


def in_letters(wheel, table):
    """The wheel in letters of the table."""
    check_wheel(wheel)
    wide = len(wheel[0])
    if not is_letters(table, wide):
        raise InvalidTable(table)
    columns = columns_of(table, wide)
    return [[product_sum(spoke, column) for column in columns] for spoke in wheel]


def letters(wheel, other):
    """The table by which the wheel comes to the other one; None if there is none."""
    check_wheel(wheel)
    check_wheel(other)
    wide = len(wheel[0])
    if len(wheel) != len(other) or wide != len(other[0]):
        return None
    rows = in_steps([[*spoke, *its] for spoke, its in zip(wheel, other)])
    # A wheel's spokes lie on no line, so the first heads stand in its own columns, and the table is behind them.
    # One row more tells that some sum of spokes is nought here and something else there.
    if len(rows) > wide:
        return None
    return [over_head(row)[wide:] for row in rows]


def beyond(wheel, normal):
    """The sorted list of the places of the spokes beyond the line."""
    check_wheel(wheel)
    if not is_numbers(normal, len(wheel[0])):
        raise InvalidNumbers(normal)
    return [at for at, spoke in enumerate(wheel) if product_sum(spoke, normal).sign > 0]


def least_beyond(wheel):
    """The least number of spokes beyond any line."""
    check_wheel(wheel)
    return thinnest_side(wheel)
