"""What is kept under names and noted under labels at one time.

A Board never changes: each deed makes another one, so that boards of earlier
times can be kept. Its lists are never told or taken but as copies.
"""
from fewcorners.basics import copied
from fewcorners.claims import is_claim, is_true
from fewcorners.commands import claim_by
from fewcorners.errors import LabelTaken, NameTaken, UnknownLabel, UnknownName

KINDS_OF_THINGS = ("points", "body", "wheel")
# Of which kinds the thing may be that a command names.
WANTED = {
    "points": ("points",), "body": ("body",), "wheel": ("wheel",), "name": ("points", "body", "wheel"),
    "spoked": ("body", "wheel"),
}


class Board:
    """By name a tuple of the kind and the thing, by label the words of its claim, and by label its state."""

    def __init__(self, things, claims, states):
        self.things = things
        self.claims = claims
        self.states = states


def kind_of(things, name):
    """The kind of what is kept under the name; None if nothing is."""
    return things[name][0] if name in things else None


def thing_of(things, name):
    """What is kept under the name, copied."""
    return copied(things[name][1])


def check_names(board, shape, parts):
    """The errors of names and labels in a command that wants these kinds and tells these parts."""
    for kind, part in zip(shape, parts):
        if kind == "new" and part in board.things:
            raise NameTaken(part)
        if kind == "fresh" and part in board.claims:
            raise LabelTaken(part)
    for kind, part in zip(shape, parts):
        wanted = (kind_of(board.things, parts[0]),) if kind == "other" else WANTED.get(kind)
        if wanted is not None and kind_of(board.things, part) not in wanted:
            raise UnknownName(part)
        if kind == "label" and part not in board.claims:
            raise UnknownLabel(part)


def tuple_of(things, text):
    """The tuple of a claim of these words, with what is kept; None if a name has nothing of the kind that it wants."""
    word, shape, parts = claim_by(text)
    told = []
    for kind, part in zip(shape, parts):
        if kind in KINDS_OF_THINGS and kind_of(things, part) != kind:
            return None
        told.append(thing_of(things, part) if kind in KINDS_OF_THINGS else part)
    return (word, *told)


def state_of(things, text):
    """The state of a claim of these words."""
    claim = tuple_of(things, text)
    if not is_claim(claim):
        return "gone"
    return "true" if is_true(claim) else "false"


def claim_of_label(board, label):
    """The claim of the label with what is kept; None while its state is gone."""
    return None if board.states[label] == "gone" else tuple_of(board.things, board.claims[label])


def with_things(board, things, name):
    """The board with these things, which are others under the name alone."""
    states = dict(board.states)
    for label, text in board.claims.items():
        if name in text.split(" "):
            states[label] = state_of(things, text)
    return Board(things, board.claims, states)


def with_thing(board, name, kind, thing):
    """The board with the thing under the name."""
    return with_things(board, {**board.things, name: (kind, thing)}, name)


def without_thing(board, name):
    """The board with nothing under the name."""
    return with_things(board, {other: board.things[other] for other in board.things if other != name}, name)


def with_claim(board, label, text):
    """The board with a claim of these words under the label."""
    state = state_of(board.things, text)
    return Board(board.things, {**board.claims, label: text}, {**board.states, label: state})


def without_claim(board, label):
    """The board with nothing under the label."""
    claims = {other: board.claims[other] for other in board.claims if other != label}
    return Board(board.things, claims, {other: board.states[other] for other in claims})
