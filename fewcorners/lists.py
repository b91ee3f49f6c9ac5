"""All faces of a body, listed and counted by their sizes."""
from fewcorners.balancing import least_balances
from fewcorners.basics import is_count
from fewcorners.beside import beside, is_told_apart
from fewcorners.bodies import check_body
from fewcorners.elimination import in_steps
from fewcorners.errors import InvalidMany, NotFace
from fewcorners.faces import is_face
from fewcorners.wheels import whole_by_places


def all_lots(many):
    """All lots of places below many."""
    found = [[]]
    for at in range(many):
        found = found + [[*lot, at] for lot in found]
    return found


def faces(body, many):
    """The sorted list of all faces with so many corners."""
    check_body(body)
    if not is_count(many) or many > 9:
        raise InvalidMany(many)
    rows = whole_by_places(body.wheel())
    return sorted([lot for lot in all_lots(body.many) if len(lot) == many and is_told_apart(rows, lot)])


def facets(body):
    """The sorted list of all facets: of what least balanced lots leave out."""
    check_body(body)
    rows = whole_by_places(body.wheel())
    return sorted([beside(rows, lot) for lot, _ in least_balances(rows)])


def edges(body):
    """The sorted list of all edges, tuples of two positions."""
    return [tuple(lot) for lot in faces(body, 2)]


def size_of(rows, places):
    """The size of the lot's points, by the whole spokes of all points.

    As many sums to nought as are free have numbers on the lot alone: all that
    are free, but for those of the spokes left out that are.
    """
    left_out = [rows[at] for at in beside(rows, places)]
    return len(places) - 1 - len(rows[0]) + len(in_steps(left_out))


def face_size(body, places):
    """The size of the face."""
    if not is_face(body, places):
        raise NotFace()
    return size_of(whole_by_places(body.wheel()), places)


def face_numbers(body):
    """How many faces the body has of each size from -1 on up to its own."""
    check_body(body)
    rows = whole_by_places(body.wheel())
    sizes = [size_of(rows, lot) for lot in all_lots(body.many) if is_told_apart(rows, lot)]
    return [sizes.count(size) for size in range(-1, body.size + 1)]
