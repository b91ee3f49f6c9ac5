"""Values of the sorts, and their written forms."""
from fewcorners.basics import is_list
from fewcorners.errors import InvalidSort, InvalidValue
from fewcorners.numerals import rows_text, words_text
from fewcorners.places import is_lot
from fewcorners.ratios import is_number
from fewcorners.steps import is_points
from fewcorners.tables import is_numbers
from fewcorners.wheels import is_wheel
from fewcorners.words import is_word

SORTS = ("points", "wheel", "word", "lot", "form", "numbers")


def sorts():
    """The list of the words of the sorts, in their sequence."""
    return list(SORTS)


def is_list_of_numbers(value, most):
    """Whether the value is a list of 1 to most NUMBERS."""
    return is_list(value) and 1 <= len(value) <= most and is_numbers(value, len(value))


def is_any_form(value):
    """Whether the value is a form for some points."""
    if not isinstance(value, tuple) or len(value) != 2:
        return False
    return is_list_of_numbers(value[0], 8) and is_number(value[1])


def is_of_sort(sort, value):
    """Whether the value is one of the sort."""
    if sort not in SORTS:
        raise InvalidSort(sort)
    if sort == "points":
        return is_points(value)
    if sort == "wheel":
        return is_wheel(value)
    if sort == "word":
        return is_word(value)
    if sort == "lot":
        return is_lot(value, 9)
    if sort == "form":
        return is_any_form(value)
    return is_list_of_numbers(value, 40)


def line_of(words):
    """The line of these words."""
    return words_text(words) + "\n"


def written(sort, value):
    """The written form of a value of the sort."""
    if not is_of_sort(sort, value):
        raise InvalidValue(value)
    if sort == "points":
        return "points\n" + "".join([line_of(["at", *point]) for point in value])
    if sort == "wheel":
        return "wheel " + rows_text(value) + "\n"
    if sort == "word":
        return line_of(["word", value[0], *value[1]])
    if sort == "form":
        return line_of(["form", value[1]]) + line_of(["normal", *value[0]])
    return line_of([sort, *value])
