"""Rows of numbers brought into steps, exactly.

Each row is kept whole: as integers without a common part, a number other than
0 times the row that is meant. So no fraction is ever reckoned here, and the
integers stay as short as the row lets them be.
"""
from math import gcd, lcm

from fewcorners.ratios import Ratio, parts_of


def without_common_part(integers):
    """The integers divided by the greatest integer that divides them all."""
    shared = 0
    for integer in integers:
        shared = gcd(shared, integer)
    if shared < 2:
        return list(integers)
    return [integer // shared for integer in integers]


def whole(numbers):
    """The numbers times the number above 0 that makes them integers without a common part."""
    pairs = [parts_of(number) for number in numbers]
    shared = 1
    for _, bottom in pairs:
        shared = lcm(shared, bottom)
    return without_common_part([top * (shared // bottom) for top, bottom in pairs])


def head_place(row):
    """The place of the first number other than 0."""
    return [at for at, number in enumerate(row) if number != 0][0]


def over_head(row):
    """A whole row divided by its first number other than 0."""
    head = row[head_place(row)]
    return [Ratio(integer, head) for integer in row]


def cleared(row, head, column):
    """The whole row with 0 in the column: some multiple of the head row taken off."""
    return without_common_part([head[column] * mine - row[column] * its for mine, its in zip(row, head)])


def in_steps(rows):
    """The list in steps of which the rows are made, each list whole."""
    done = []
    left = [whole(row) for row in rows]
    wide = len(left[0]) if left else 0
    for column in range(wide):
        found = [row for row in left if row[column] != 0]
        if found:
            head = found[0]
            others = found[1:] + [row for row in left if row[column] == 0]
            left = [cleared(row, head, column) for row in others]
            # The heads ahead are not cleared away: the new head row has 0 at their places.
            done = [cleared(row, head, column) for row in done] + [head]
    return done


def unit(at, many):
    """So many integers, 1 at the place and 0 else."""
    return [1 if place == at else 0 for place in range(many)]


def relations(rows):
    """The lists of numbers by which the rows come to nought, in steps, each whole."""
    wide = len(rows[0])
    # Each row carries a mark of its own along, so the marks tell of which rows a row of noughts is made.
    marked = [list(row) + unit(at, len(rows)) for at, row in enumerate(rows)]
    return [row[wide:] for row in in_steps(marked) if head_place(row) >= wide]
