"""Places, and lots of them."""
from fewcorners.basics import is_count, is_list
from fewcorners.errors import InvalidPlace, InvalidPlaces


def is_place(value, many):
    """Whether the value is a COUNT below many."""
    return is_count(value) and value < many


def is_lot(value, many):
    """Whether the value is a sorted list of unlike COUNTS below many."""
    if not is_list(value) or not all([is_place(place, many) for place in value]):
        return False
    return all([value[at] < value[at + 1] for at in range(len(value) - 1)])


def check_place(place, many):
    """InvalidPlace unless a place below many."""
    if not is_place(place, many):
        raise InvalidPlace(place)


def check_places(places, many):
    """InvalidPlaces unless a lot of places below many."""
    if not is_lot(places, many):
        raise InvalidPlaces(places)
