"""Which points are corners, with the papers of both sides."""
from fewcorners.beside import form_beside, is_form_beside, is_told_apart, sum_beside
from fewcorners.errors import NotFew
from fewcorners.places import check_place
from fewcorners.ratios import Ratio, ratios_of
from fewcorners.steps import check_points, whole_spokes
from fewcorners.sums import is_sum
from fewcorners.tables import is_numbers


def few_spokes(points):
    """The whole spokes of points; NotFew unless these are few."""
    rows = whole_spokes(points)
    if len(rows[0]) > 2:
        raise NotFew()
    return rows


def spokes_at(points, place):
    """The whole spokes of few points, both parameters checked."""
    check_points(points)
    check_place(place, len(points))
    return few_spokes(points)


def is_corner(points, place):
    """Whether the point is a corner: whether the spokes of all others balance."""
    return is_told_apart(spokes_at(points, place), [place])


def corner_places(points):
    """The sorted list of the positions of all corners."""
    check_points(points)
    rows = few_spokes(points)
    return [at for at in range(len(rows)) if is_told_apart(rows, [at])]


def corner_form(points, place):
    """A corner form of the point; None if it is no corner."""
    return form_beside(points, spokes_at(points, place), [place])


def mixture(points, place):
    """A mixture of the point; None if it is a corner.

    A sum to nought that is below 0 at the point alone is the mixture, and -1
    there, but for what all of it is divided by.
    """
    sum_now = sum_beside(spokes_at(points, place), [place])
    if sum_now is None:
        return None
    return [Ratio(0) if at == place else Ratio(number, -sum_now[place]) for at, number in enumerate(sum_now)]


def is_corner_form(points, place, value):
    """Whether the value is a corner form of the point."""
    spokes_at(points, place)
    return is_form_beside(points, [place], value)


def is_mixture(points, place, value):
    """Whether the value is a mixture of the point."""
    spokes_at(points, place)
    if not is_numbers(value, len(points)):
        return False
    numbers = ratios_of(value)
    if numbers[place].sign != 0 or any([number.sign < 0 for number in numbers]):
        return False
    # Once the point itself is taken off, a mixture is a sum to nought.
    return is_sum(points, numbers[:place] + [-1] + numbers[place + 1:])
