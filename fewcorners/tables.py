"""Which values are lists of numbers, and tables of them."""
from fewcorners.basics import is_list
from fewcorners.ratios import is_number


def is_numbers(value, many):
    """Whether the value is a list of so many numbers."""
    return is_list(value) and len(value) == many and all([is_number(number) for number in value])


def is_table(value, least, most, widest):
    """Whether the value is a list of least to most lists, alike long, of 1 to widest numbers each."""
    if not is_list(value) or not least <= len(value) <= most:
        return False
    if not is_list(value[0]) or not 1 <= len(value[0]) <= widest:
        return False
    wide = len(value[0])
    return all([is_numbers(row, wide) for row in value])


def columns_of(rows, wide):
    """The lists of the rows' numbers at each of so many places: told, so that no rows have columns, too."""
    return [[row[at] for row in rows] for at in range(wide)]
