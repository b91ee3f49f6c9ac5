"""Bodies of few corners."""
from fewcorners.basics import is_count
from fewcorners.corners import corner_places
from fewcorners.elimination import unit
from fewcorners.errors import Flattened, InvalidBody, InvalidMany, InvalidNumbers, InvalidTable, NotCorner
from fewcorners.ratios import product_sum, ratios_of
from fewcorners.steps import spokes, whole_sums
from fewcorners.tables import columns_of, is_numbers, is_table


class Body:
    """Few points, all of them corners."""

    def __init__(self, points):
        corners = corner_places(points)
        for at in range(len(points)):
            if at not in corners:
                raise NotCorner(at)
        self._points = [ratios_of(point) for point in points]
        self._wheel = spokes(points)

    @property
    def many(self):
        return len(self._points)

    @property
    def size(self):
        return len(self._points) - len(self._wheel[0]) - 1

    @property
    def excess(self):
        return len(self._wheel[0])

    def points(self):
        """The list of the points."""
        return [list(point) for point in self._points]

    def wheel(self):
        """The list of the spokes."""
        return [list(spoke) for spoke in self._wheel]

    def __eq__(self, other):
        return isinstance(other, Body) and self._points == other._points

    def __repr__(self):
        return f"Body({repr(self._points)})"


def check_body(body):
    """InvalidBody unless a Body."""
    if not isinstance(body, Body):
        raise InvalidBody(body)


def simplex(many):
    """The told simplex of many corners."""
    if not is_count(many) or not 2 <= many <= 9:
        raise InvalidMany(many)
    return Body([[0] * (many - 1)] + [unit(at, many - 1) for at in range(many - 1)])


def moved(body, rows, shift):
    """The body moved by the table and the shift."""
    check_body(body)
    points = body.points()
    height = len(points[0])
    if not is_table(rows, height, height, 8):
        raise InvalidTable(rows)
    wide = len(rows[0])
    if not is_numbers(shift, wide):
        raise InvalidNumbers(shift)
    columns = columns_of(rows, wide)
    images = [[product_sum(point, columns[at]) + shift[at] for at in range(wide)] for point in points]
    # The body's sums to nought are all sums of the images, too: the size stays exactly if none comes in.
    if len(whole_sums(images)) != body.excess:
        raise Flattened()
    return Body(images)
