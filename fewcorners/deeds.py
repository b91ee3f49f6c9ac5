"""What deeds make of a board."""
from fewcorners.boards import thing_of, tuple_of, with_claim, with_thing, without_claim, without_thing
from fewcorners.bodies import Body, moved, simplex
from fewcorners.claims import is_claim
from fewcorners.commands import parsed, words_behind_label
from fewcorners.errors import InvalidClaim
from fewcorners.figures import face_body, figure
from fewcorners.makes import body_by, joined, pyramid, wheel_by
from fewcorners.places import check_place
from fewcorners.steps import check_points
from fewcorners.wheels import check_wheel, in_letters


def make_points(things, rows):
    check_points(rows)
    return rows


def make_wheel(things, rows):
    check_wheel(rows)
    return rows


def make_body(things, name):
    return Body(thing_of(things, name))


def make_corners(things, name):
    return thing_of(things, name).points()


def make_spokes(things, name):
    return make_wheel(things, thing_of(things, name).wheel())


def make_simplex(things, many):
    return simplex(many)


def make_pyramid(things, name):
    return pyramid(thing_of(things, name))


def make_joined(things, name, other):
    return joined(thing_of(things, name), thing_of(things, other))


def make_moved(things, name, shift, rows):
    return moved(thing_of(things, name), rows, shift)


def make_within(things, name, lot):
    return face_body(thing_of(things, name), lot)


def make_figure(things, name, place):
    return figure(thing_of(things, name), place)


def make_spun(things, name):
    return body_by(thing_of(things, name))


def make_worded(things, peaks, numbers):
    return wheel_by((peaks, numbers))


def make_letters(things, name, table):
    return in_letters(thing_of(things, name), table)


def make_amount(things, name, place, at, number):
    points = thing_of(things, name)
    check_place(place, len(points))
    check_place(at, len(points[0]))
    points[place][at] = number
    return points


MAKERS = {
    "points": make_points, "wheel": make_wheel, "body": make_body, "corners": make_corners, "spokes": make_spokes,
    "simplex": make_simplex, "pyramid": make_pyramid, "joined": make_joined, "moved": make_moved,
    "within": make_within, "figure": make_figure, "spun": make_spun, "worded": make_worded, "letters": make_letters,
}
KINDS_MADE = {
    "points": "points", "wheel": "wheel", "body": "body", "corners": "points", "spokes": "wheel", "simplex": "body",
    "pyramid": "body", "joined": "body", "moved": "body", "within": "body", "figure": "body", "spun": "body",
    "worded": "wheel", "letters": "wheel",
}


def with_noted(board, label, text):
    """The board with a claim of these words noted."""
    claim = tuple_of(board.things, text)
    if not is_claim(claim):
        raise InvalidClaim(claim)
    return with_claim(board, label, text)


def board_behind(board, deed):
    """The board behind a deed whose names and labels are kept, noted and free as they should be."""
    word, _, parts = parsed(deed)
    first, *rest = parts
    if word == "claim":
        return with_noted(board, first, words_behind_label(deed))
    if word == "forget":
        return without_claim(board, first)
    if word == "drop":
        return without_thing(board, first)
    if word == "amount":
        return with_thing(board, first, "points", make_amount(board.things, first, *rest))
    maker = MAKERS[word]
    return with_thing(board, first, KINDS_MADE[word], maker(board.things, *rest))
