"""Corners of a body that can be exchanged."""
from fewcorners.bodies import check_body
from fewcorners.places import check_place
from fewcorners.words import lots_by_word


def twins(body):
    """The classes of corners any two of which are twins, rising by their least corners."""
    check_body(body)
    return sorted([lot for lot in lots_by_word(body) if lot])


def are_twins(body, place, second):
    """Whether the corners at both places are twins."""
    check_body(body)
    check_place(place, body.many)
    check_place(second, body.many)
    return any([place in lot and second in lot for lot in lots_by_word(body)])
