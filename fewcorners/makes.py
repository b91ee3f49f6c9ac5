"""Wheels made of words, bodies made of wheels and of other bodies."""
from fewcorners.balancing import balance_by
from fewcorners.bodies import Body, check_body
from fewcorners.elimination import relations
from fewcorners.errors import NotFew, Simplex, TooMany
from fewcorners.ratios import ratios_of
from fewcorners.tables import columns_of
from fewcorners.wheels import check_wheel
from fewcorners.words import check_word


def made_ends(many):
    """So many directions in turn, each opposite to the one half of them further on."""
    half = many // 2
    if half == 1:
        return [[1], [-1]]
    upper = [[half - at, 1] for at in range(half)]
    return upper + [[-east, -north] for east, north in upper]


def wheel_by(word):
    """A wheel with this word."""
    check_word(word)
    many, numbers = word
    if len(numbers) == 0:
        raise Simplex()
    ends = made_ends(len(numbers))
    spokes = [end for end, count in zip(ends, numbers) for _ in range(count)]
    spokes = [[times * number for number in spoke] for spoke, times in zip(spokes, balance_by(spokes))]
    return [ratios_of(spoke) for spoke in spokes + [[0] * len(ends[0])] * many]


def body_by(wheel):
    """A Body whose wheel is this one but for letters.

    The list of ones is made of all the lists in steps that are level with the
    wheel, so it stands for any one of them: the others tell the points.
    """
    check_wheel(wheel)
    return Body(columns_of(relations(wheel)[1:], len(wheel)))


def check_fits(many, wide):
    """TooMany unless a body may have so many corners, of so many numbers."""
    if many > 9:
        raise TooMany("corners", 9)
    if wide > 8:
        raise TooMany("numbers", 8)


def pyramid(body):
    """The pyramid over the body."""
    check_body(body)
    points = body.points()
    wide = len(points[0])
    check_fits(body.many + 1, wide + 1)
    return Body([[*point, 0] for point in points] + [[0] * wide + [1]])


def joined(body, other):
    """The join of both bodies."""
    check_body(body)
    check_body(other)
    if body.excess + other.excess > 2:
        raise NotFew()
    points, others = body.points(), other.points()
    wide, its = len(points[0]), len(others[0])
    check_fits(body.many + other.many, wide + its + 1)
    return Body([point + [0] * its + [0] for point in points] + [[0] * wide + point + [1] for point in others])
