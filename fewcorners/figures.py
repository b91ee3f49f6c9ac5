"""Faces as bodies, and the figures of a body at its corners."""
from fewcorners.balancing import dot
from fewcorners.bodies import Body, check_body
from fewcorners.elimination import whole
from fewcorners.errors import NotFace, TooFew
from fewcorners.faces import face_form, holds_face, is_face
from fewcorners.lists import edges
from fewcorners.places import check_place, check_places
from fewcorners.ratios import product_sum


def face_body(body, places):
    """The Body of the corners of a face."""
    if not is_face(body, places):
        raise NotFace()
    if len(places) < 2:
        raise TooFew()
    points = body.points()
    return Body([points[at] for at in places])


def around(body, place):
    """The sorted list of the other ends of all edges of the corner."""
    check_body(body)
    check_place(place, body.many)
    return [first + second - place for first, second in edges(body) if place in (first, second)]


def shortened(normal, ways):
    """The whole normal, rounded as far as its products with all the whole ways stay above 0."""
    lost = max([number.bit_length() for number in normal])
    while min([dot([number >> lost for number in normal], way) for way in ways]) <= 0:
        lost = lost - 1
    return [number >> lost for number in normal]


def figure_ways(body, place, others):
    """For each corner around the way to it, made so long that it ends in one plane with all others.

    The corners around tell which forms are above 0 at all other corners, too;
    a short one keeps the figure's numbers short.
    """
    points = body.points()
    ways = [[its - mine for mine, its in zip(points[place], points[at])] for at in others]
    # Any heights are those of some form over a simplex, so its ways are as long as they should be.
    if body.excess == 0:
        return ways
    normal = shortened(whole(face_form(body, [place])[0]), [whole(way) for way in ways])
    heights = [product_sum(normal, way) for way in ways]
    return [[number.over(height) for number in way] for way, height in zip(ways, heights)]


def figure(body, place):
    """A figure of the body at the corner."""
    others = around(body, place)
    if body.size == 1:
        raise TooFew()
    corner = body.points()[place]
    return Body([[mine + its for mine, its in zip(corner, way)] for way in figure_ways(body, place, others)])


def figure_face(body, place, places):
    """Whether the lot of a figure's corners is a face of it."""
    others = around(body, place)
    check_places(places, len(others))
    if body.size == 1:
        raise TooFew()
    # Faces through the corner are the figure's faces, so the least one that holds the lot must hold nothing more.
    chosen = [others[at] for at in places]
    held = holds_face(body, sorted([place, *chosen]))
    return [at for at in held if at in others] == chosen
