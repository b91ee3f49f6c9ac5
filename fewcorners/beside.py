"""What tells a lot of points from all others: forms that are 0 on it alone, sums that show that none is.

Here the points' whole spokes, at most two integers each, are told as rows.
"""
from fewcorners.balancing import covering_balances, dot, spread, tipping_by
from fewcorners.elimination import without_common_part
from fewcorners.sums import form_of, heights, is_form, whole_form


def beside(rows, places):
    """The places that the lot leaves out."""
    return [at for at in range(len(rows)) if at not in places]


def is_told_apart(rows, places):
    """Whether some form is 0 on the lot and above 0 at all other points: whether the others' spokes balance."""
    return tipping_by([rows[at] for at in beside(rows, places)]) is None


def form_beside(points, rows, places):
    """A form that is 0 on the lot and above 0 at all other points; None if there is none.

    Each least balanced lot of the others' spokes tells such a form that is
    above 0 on it alone; the sum of some that leave none out is short, while
    the form of a sum of balances may be long.
    """
    others = beside(rows, places)
    balances = covering_balances([rows[at] for at in others])
    if balances is None:
        return None
    added = [0] * (len(points[0]) + 1)
    for lot, numbers in balances:
        levels = spread(len(rows), [others[at] for at in lot], numbers)
        added = [one + other for one, other in zip(added, whole_form(points, levels))]
    return form_of(without_common_part(added))


def sum_beside(rows, places):
    """A sum to nought that is 0 or above at all points but the lot's, above 0 at one of them; None if there is none."""
    tipping = tipping_by([rows[at] for at in beside(rows, places)])
    if tipping is None:
        return None
    return without_common_part([dot(tipping, row) for row in rows])


def is_form_beside(points, places, value):
    """Whether the value is a form for the points that is 0 on the lot and above 0 at all other points."""
    if not is_form(points, value):
        return False
    levels = [height.sign for height in heights(points, value)]
    return levels == [0 if at in places else 1 for at in range(len(points))]
