"""Beams of spokes, and which of them are opposite."""
from fewcorners.rounds import in_turn, lots_by_direction, opposite_of
from fewcorners.wheels import check_wheel


def beams(wheel):
    """The positions on each beam, the beam with the least of all first, the others against the clock."""
    check_wheel(wheel)
    lots = lots_by_direction(wheel)
    return [lots[direction] for direction in in_turn(list(lots))]


def opposites(wheel):
    """The sorted list of tuples of both beams of a diameter, the one with the least position first."""
    check_wheel(wheel)
    lots = lots_by_direction(wheel)
    pairs = [(lots[direction], lots.get(opposite_of(direction), [])) for direction in lots]
    # A pair is found from either of its beams; no list is less than the empty one of a beam that is not there.
    return sorted([(mine, its) for mine, its in pairs if mine < its])
