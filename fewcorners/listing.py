"""All words of so many corners."""
from fewcorners.basics import is_count
from fewcorners.errors import InvalidMany, TooMany
from fewcorners.words import is_word


def check_many(many, least, most):
    """InvalidMany unless a COUNT from least to most."""
    if not is_count(many) or not least <= many <= most:
        raise InvalidMany(many)


def check_corners_and_excess(many, excess):
    """InvalidMany unless 2 to 9 corners, then unless an excess of few points."""
    check_many(many, 2, 9)
    check_many(excess, 0, 2)


def parts_of(total, many):
    """All lists of so many numbers above 0 that add up to the total."""
    if many == 1:
        return [[total]]
    return [[first, *rest] for first in range(1, total - many + 2) for rest in parts_of(total - first, many - 1)]


def rounds_with(sums):
    """All lists of a round whose opposite numbers add up to these sums."""
    halves = [[]]
    for most in sums:
        halves = [[*half, number] for half in halves for number in range(most + 1)]
    return [half + [most - number for most, number in zip(sums, half)] for half in halves]


def rounds_of(total):
    """All lists of two diameters or more, spokes on each of them, that add up to the total."""
    all_sums = [sums for half in range(2, total + 1) for sums in parts_of(total, half)]
    return [numbers for sums in all_sums for numbers in rounds_with(sums)]


def candidates(many, excess):
    """Tuples of peaks and a list, all words of so many corners with this excess among them."""
    if excess == 0:
        return [(many, [])]
    if excess == 1:
        return [(many - one - other, [one, other]) for other in range(many) for one in range(many - other + 1)]
    return [(bare, numbers) for bare in range(many) for numbers in rounds_of(many - bare)]


def words_of(many, excess):
    """The sorted list of all words of so many corners with this excess."""
    check_corners_and_excess(many, excess)
    if excess == 2 and many > 7:
        raise TooMany("corners", 7)
    return sorted([found for found in candidates(many, excess) if is_word(found)])


def word_count(many, excess):
    """How many words of so many corners with this excess there are."""
    return len(words_of(many, excess))
