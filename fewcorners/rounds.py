"""The ends of a wheel's diameters in turn, and what turning, mirroring and merging make of them.

A direction is here a tuple of two integers without a common part: spokes on
one beam have the same one. A spoke of one number is told a 0 behind it.
"""
from fewcorners.balancing import cross, dot
from fewcorners.elimination import whole


def direction_of(spoke):
    """The direction of a spoke; (0, 0) of a peak's."""
    return tuple(whole((list(spoke) + [0])[:2]))


def opposite_of(direction):
    """The direction that is opposite."""
    return -direction[0], -direction[1]


def lots_by_direction(wheel):
    """For the direction of each beam the sorted list of its positions; the beams stand by their least ones."""
    lots = {}
    for at, spoke in enumerate(wheel):
        direction = direction_of(spoke)
        if direction != (0, 0):
            lots.setdefault(direction, []).append(at)
    return lots


def is_past(first, direction):
    """Whether it is a half turn or more, against the clock, from the first direction to the other one."""
    side = cross(first, direction)
    return side < 0 or side == 0 and dot(first, direction) < 0


def is_sooner(first, one, other):
    """Whether turning against the clock from the first direction comes to the one sooner than to the other."""
    if is_past(first, one) != is_past(first, other):
        return is_past(first, other)
    return cross(one, other) > 0


def in_turn(directions):
    """The unlike directions against the clock, from the first one on."""
    first = directions[0]
    ranked = [(len([other for other in directions if is_sooner(first, other, one)]), one) for one in directions]
    return [one for _, one in sorted(ranked)]


def round_of(wheel):
    """The positions at all ends of the diameters, in turn: an empty list where no beam is."""
    lots = lots_by_direction(wheel)
    bare = [opposite_of(direction) for direction in lots if opposite_of(direction) not in lots]
    return [lots.get(end, []) for end in in_turn(list(lots) + bare)]


def merging_at(ends):
    """A place that is merged with the one ahead of it; None if there is none.

    The ends may be told by their positions or by how many these are.
    """
    half = len(ends) // 2
    for at in range(len(ends)):
        if ends[at - 1] and ends[at] and not ends[at - 1 - half] and not ends[at - half]:
            return at
    return None


def merged_once(ends, at):
    """The round with the place and the one ahead of it made one, and those opposite to them as well."""
    half = len(ends) // 2
    turned = ends[at - 1:] + ends[:at - 1]
    return [turned[0] + turned[1]] + turned[2:half] + [[]] + turned[half + 2:]


def merged_round(wheel):
    """The positions at all places that are left by merging, in turn."""
    ends = round_of(wheel)
    at = merging_at(ends)
    while at is not None:
        ends = merged_once(ends, at)
        at = merging_at(ends)
    return [sorted(lot) for lot in ends]


def arrangements(ends):
    """The round from each of its places on, in both senses."""
    if len(ends) == 0:
        return [ends]
    turns = [ends[at:] + ends[:at] for at in range(len(ends))]
    # Two ends alone are mirrored by turning them.
    if len(ends) == 2:
        return turns
    return turns + [turn[::-1] for turn in turns]
