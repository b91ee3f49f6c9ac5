"""Bodies with the same faces, and the maps that lead their corners to one another."""
from math import factorial

from fewcorners.basics import is_list
from fewcorners.bodies import check_body
from fewcorners.lists import facets
from fewcorners.places import is_place
from fewcorners.words import keeping, lots_by_word, word_of


def alike(body, other):
    """A face map of the body to the other one; None if they are not alike."""
    if word_of(body) != word_of(other):
        return None
    goes = {}
    for mine, its in zip(lots_by_word(body), lots_by_word(other)):
        for at, to in zip(mine, its):
            goes[at] = to
    return [goes[at] for at in range(body.many)]


def is_map(value, many):
    """Whether the value is a list of so many unlike COUNTS below many."""
    if not is_list(value) or not all([is_place(to, many) for to in value]):
        return False
    return sorted(value) == list(range(many))


def is_alike(body, other, value):
    """Whether the value is a face map of the body to the other one."""
    check_body(body)
    check_body(other)
    if body.many != other.many or not is_map(value, body.many):
        return False
    return sorted([sorted([value[at] for at in facet]) for facet in facets(body)]) == facets(other)


def own_maps(body):
    """How many own maps the body has."""
    told = word_of(body)
    found = keeping(told) * factorial(told[0])
    for number in told[1]:
        found = found * factorial(number)
    return found
