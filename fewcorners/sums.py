"""Sums to nought, forms and heights."""
from fewcorners.elimination import head_place, in_steps, relations, whole
from fewcorners.errors import InvalidForm, InvalidNumbers, InvalidSum
from fewcorners.places import check_places
from fewcorners.ratios import Ratio, is_number, product_sum, ratios_of
from fewcorners.steps import check_points, spokes, whole_sums, with_ones
from fewcorners.tables import columns_of, is_numbers


def is_sum(points, value):
    """Whether the value is a sum to nought of the points."""
    check_points(points)
    if not is_numbers(value, len(points)):
        return False
    rows = with_ones(points)
    return all([product_sum(value, column).sign == 0 for column in columns_of(rows, len(rows[0]))])


def sum_by(points, numbers):
    """The sum to nought that is made of the told sums by the numbers."""
    rows = spokes(points)
    if not is_numbers(numbers, len(rows[0])):
        raise InvalidNumbers(numbers)
    return [product_sum(numbers, spoke) for spoke in rows]


def numbers_of(points, sum_now):
    """The numbers by which the sum to nought is made of the told sums: its own ones at their heads."""
    if not is_sum(points, sum_now):
        raise InvalidSum(sum_now)
    return ratios_of([sum_now[head_place(row)] for row in whole_sums(points)])


def is_form(points, value):
    """Whether the value is a form for the points."""
    check_points(points)
    if not isinstance(value, tuple) or len(value) != 2:
        return False
    return is_numbers(value[0], len(points[0])) and is_number(value[1])


def heights(points, form):
    """The heights of all points over the form."""
    if not is_form(points, form):
        raise InvalidForm(form)
    normal, number = form
    return [product_sum(normal, point) + number for point in points]


def form_of(numbers):
    """The form whose normal is the numbers without the last one, and whose number is this."""
    ratios = ratios_of(numbers)
    return ratios[:-1], ratios[-1]


def form_through(points, places):
    """A form through the points of the lot; None if there is none."""
    check_points(points)
    check_places(places, len(points))
    rows = with_ones(points)
    lot = [rows[at] for at in places]
    # All forms that are 0 on the lot are made of these: if none of them is above or below 0 elsewhere, none is.
    for numbers in relations(columns_of(lot, len(rows[0]))):
        if any([product_sum(numbers, row).sign != 0 for row in rows]):
            return form_of(numbers)
    return None


def whole_form(points, levels):
    """The normal's numbers and the number of a form whose heights are these levels times one number above 0, whole.

    The levels are such that with each sum to nought their products add up to 0.
    """
    rows = in_steps([[*point, 1, level] for point, level in zip(points, levels)])
    found = {head_place(row): Ratio(row[-1], row[head_place(row)]) for row in rows}
    return whole([found.get(at, 0) for at in range(len(points[0]) + 1)])
