"""Which lots of a body's corners are faces, with the papers of both sides."""
from fewcorners.balancing import least_balances
from fewcorners.beside import beside, form_beside, is_form_beside, is_told_apart, sum_beside
from fewcorners.bodies import check_body
from fewcorners.places import check_places
from fewcorners.ratios import ratios_of
from fewcorners.sums import is_sum
from fewcorners.wheels import whole_by_places


def check_corners(body, places):
    """InvalidBody unless a Body, InvalidPlaces unless a lot of its corners."""
    check_body(body)
    check_places(places, body.many)


def checked_spokes(body, places):
    """The whole spokes of the body, both parameters checked."""
    check_corners(body, places)
    return whole_by_places(body.wheel())


def is_face(body, places):
    """Whether the lot of corners is a face: whether the spokes of all others balance."""
    return is_told_apart(checked_spokes(body, places), places)


def face_form(body, places):
    """A face form of the lot; None if it is no face."""
    rows = checked_spokes(body, places)
    return form_beside(body.points(), rows, places)


def open_sum(body, places):
    """An open sum of the lot; None if it is a face."""
    numbers = sum_beside(checked_spokes(body, places), places)
    if numbers is None:
        return None
    return ratios_of(numbers)


def is_face_form(body, places, value):
    """Whether the value is a face form of the lot."""
    check_corners(body, places)
    return is_form_beside(body.points(), places, value)


def is_open_sum(body, places, value):
    """Whether the value is an open sum of the lot."""
    check_corners(body, places)
    if not is_sum(body.points(), value):
        return False
    numbers = ratios_of(value)
    signs = [numbers[at].sign for at in beside(numbers, places)]
    return 1 in signs and -1 not in signs


def holds_face(body, places):
    """The least face that holds the lot: all corners but those of the largest lot beside it that balances."""
    rows = checked_spokes(body, places)
    others = beside(rows, places)
    kept = {}
    for lot, _ in least_balances([rows[at] for at in others]):
        for at in lot:
            kept[others[at]] = True
    return [at for at in range(body.many) if at not in kept]
