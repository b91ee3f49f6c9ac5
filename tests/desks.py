"""What the tests of the desk need: things on it, and all that can be seen of it."""
from fewcorners.bodies import Body
from fewcorners.desk import Desk
from fewcorners.ratios import Ratio
from tests.helpers import raised

SQUARE_LINES = ["points p 0,0 1,0 0,1 1,1", "body b p"]
# Things of all kinds: points, bodies with each excess, wheels of one and of two numbers, with peaks and without.
THINGS = [
    "points p 0,0 1,0 0,1 1,1", "points q 0,0 4,0 0,4 1,1", "points few 0 1 2 3 4", "body b p", "simplex s 4", "pyramid t b",
    "wheel w 1 1 -1 -1 0", "wheel v 1,0 1,0 0,1 0,1 -1,-1 -1,-1", "spun six v",
]


def desk_with(*lines):
    desk = Desk()
    desk.do_all(*lines)
    return desk


def ratios(rows):
    return [[Ratio(0) + number for number in row] for row in rows]


def seen(desk):
    """All that a desk tells of itself."""
    labels = desk.labels
    return {
        "names": desk.names, "things": {name: desk[name] for name in desk.names}, "labels": labels, "many": len(desk),
        "lines": desk.lines(),
        "claims": {label: desk.claim_of(label) for label in labels}, "states": desk.do("states"),
        "claimed": {label: desk.do("claimed " + label) for label in labels},
        "fits": {label: desk.fits(label) for label in labels},
        "undone": undone(desk),
    }


def undone(desk):
    """The lines that can be done again, on a copy of the desk."""
    other = desk.copy()
    found = []
    while raised(other.copy().do, "redo") is None:
        found.append(other.do("redo"))
    return found


def kinds_inside(value):
    """All kinds inside a thing or a claim, without lists and tuples themselves."""
    if isinstance(value, (list, tuple)):
        return {kind for part in value for kind in kinds_inside(part)}
    return {type(value)}


def is_told(value):
    """Whether a kept thing is told as it should be: a Body, or lists of lists of Ratios."""
    if isinstance(value, Body):
        return True
    return type(value) is list and all(type(row) is list and {type(number) for number in row} <= {Ratio} for row in value)
