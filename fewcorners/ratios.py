"""Fractions that are reckoned exactly."""
from math import gcd

from fewcorners.basics import is_integer, is_list
from fewcorners.errors import DividedByZero, InvalidNumber


class Ratio:
    """A fraction in lowest terms, its bottom at least 1."""

    def __init__(self, top, bottom=1):
        if not is_integer(top):
            raise InvalidNumber(top)
        if not is_integer(bottom) or bottom == 0:
            raise InvalidNumber(bottom)
        shared = gcd(top, bottom)
        if bottom < 0:
            shared = -shared
        self._top = top // shared
        self._bottom = bottom // shared

    @property
    def top(self):
        return self._top

    @property
    def bottom(self):
        return self._bottom

    @property
    def sign(self):
        if self._top == 0:
            return 0
        return 1 if self._top > 0 else -1

    @property
    def is_whole(self):
        return self._bottom == 1

    @classmethod
    def total(cls, numbers):
        """The sum of a list of numbers."""
        if not is_list(numbers):
            raise InvalidNumber(numbers)
        result = cls(0)
        for number in numbers:
            result = result + number
        return result

    def __add__(self, other):
        top, bottom = parts_of(other)
        return Ratio(self._top * bottom + top * self._bottom, self._bottom * bottom)

    def __radd__(self, other):
        return self + other

    def __sub__(self, other):
        top, bottom = parts_of(other)
        return Ratio(self._top * bottom - top * self._bottom, self._bottom * bottom)

    def __rsub__(self, other):
        return -self + other

    def __mul__(self, other):
        top, bottom = parts_of(other)
        return Ratio(self._top * top, self._bottom * bottom)

    def __rmul__(self, other):
        return self * other

    def __neg__(self):
        return Ratio(-self._top, self._bottom)

    def over(self, other):
        """The ratio divided by a number."""
        top, bottom = parts_of(other)
        if top == 0:
            raise DividedByZero()
        return Ratio(self._top * bottom, self._bottom * top)

    def unsigned(self):
        """The ratio without its sign."""
        return Ratio(abs(self._top), self._bottom)

    def is_below(self, other):
        """Whether the ratio is less than the number."""
        top, bottom = parts_of(other)
        return self._top * bottom < top * self._bottom

    def is_at_most(self, other):
        """Whether the ratio is not greater than the number."""
        top, bottom = parts_of(other)
        return self._top * bottom <= top * self._bottom

    def __eq__(self, other):
        return isinstance(other, Ratio) and self._top == other._top and self._bottom == other._bottom

    def __str__(self):
        if self._bottom == 1:
            return str(self._top)
        return f"{self._top}/{self._bottom}"

    def __repr__(self):
        return f"Ratio({self._top}, {self._bottom})"


def is_number(value):
    """Whether the value is a NUMBER: an INTEGER or a Ratio."""
    return is_integer(value) or isinstance(value, Ratio)


def parts_of(number):
    """The top and the bottom of a number; InvalidNumber of any other value."""
    if isinstance(number, Ratio):
        return number.top, number.bottom
    if is_integer(number):
        return number, 1
    raise InvalidNumber(number)


def ratios_of(numbers):
    """The numbers, each as a Ratio."""
    return [Ratio(0) + number for number in numbers]


def product_sum(numbers, others):
    """The sum of the products of numbers that stand at the same place in both lists."""
    return Ratio.total([number * other for number, other in zip(numbers, others)])
