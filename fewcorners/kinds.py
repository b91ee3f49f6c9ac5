"""Simplicial and neighbourly bodies, and face numbers by words."""
from math import gcd

from fewcorners.beside import is_told_apart
from fewcorners.bodies import check_body
from fewcorners.listing import check_corners_and_excess, check_many, parts_of, words_of
from fewcorners.lists import all_lots
from fewcorners.wheels import whole_by_places
from fewcorners.words import check_word, is_word


def has_whole_diameter(numbers):
    """Whether some number of the round and the one opposite to it are both above 0."""
    half = len(numbers) // 2
    return any([numbers[at] > 0 and numbers[at + half] > 0 for at in range(half)])


def is_simplicial(word):
    """Whether bodies with this word are simplicial."""
    check_word(word)
    peaks, numbers = word
    if len(numbers) == 0:
        return True
    if len(numbers) == 2:
        return peaks == 0
    return peaks == 0 and not has_whole_diameter(numbers)


def simplicial_rounds(many):
    """All words of so many corners, noughts and numbers above 0 by turns in their lists."""
    found = []
    for odd in range(3, many + 1, 2):
        for parts in parts_of(many, odd):
            numbers = [number for part in parts for number in (0, part)]
            found.append((0, numbers))
    return [told for told in found if is_word(told)]


def simplicial_words(many, excess):
    """The sorted list of all simplicial words of so many corners with this excess."""
    check_corners_and_excess(many, excess)
    if excess == 2:
        return sorted(simplicial_rounds(many))
    return [told for told in words_of(many, excess) if is_simplicial(told)]


def free_of(odd):
    """How many of the numbers from 1 on up to this one have no common part with it."""
    return len([number for number in range(1, odd + 1) if gcd(number, odd) == 1])


def simplicial_count(many):
    """How many simplicial words of so many corners with the excess 2 there are."""
    check_many(many, 5, 60)
    size = many - 3
    odds = [odd for odd in range(1, many + 1, 2) if many % odd == 0]
    turned = sum([free_of(odd) * (1 << (many // odd)) for odd in odds])
    return (1 << (size // 2)) - (size + 4) // 2 + turned // (4 * many)


def is_left_out(numbers, touched):
    """Whether a lot with spokes at just these places of the word's list is left out by a face, peaks apart."""
    half = len(numbers) // 2
    if len(touched) == 0:
        return True
    if len(touched) == 2 and touched[0] + half == touched[1]:
        return True
    windows = [[(first + step) % len(numbers) for step in range(half - 1)] for first in range(len(numbers))]
    return all([any([place in touched for place in window]) for window in windows])


def rank_of(numbers, touched):
    """How many of the spokes at these places are free: 0, 1 if they lie on one line, else 2."""
    half = max(len(numbers) // 2, 1)
    diameters = [at for at in range(half) if at in touched or at + half in touched]
    return min(len(diameters), 2)


def numbers_by(word):
    """The face numbers of bodies with this word."""
    check_word(word)
    peaks, numbers = word
    # Where each corner stands in the word's list; peaks stand nowhere.
    stands = [None] * peaks + [at for at, number in enumerate(numbers) for _ in range(number)]
    many = len(stands)
    excess = min(len(numbers) // 2, 2)
    sizes = []
    for lot in all_lots(many):
        touched = [at for at in range(len(numbers)) if at in [stands[corner] for corner in lot]]
        if is_left_out(numbers, touched):
            sizes.append(many - len(lot) - 1 - excess + rank_of(numbers, touched))
    return [sizes.count(size) for size in range(-1, many - excess)]


def are_all_faces(body, many):
    """Whether each lot of so many corners of the body is a face."""
    rows = whole_by_places(body.wheel())
    return all([is_told_apart(rows, lot) for lot in all_lots(body.many) if len(lot) == many])


def is_neighbourly(body, many):
    """Whether each lot of so many corners is a face."""
    check_body(body)
    check_many(many, 0, body.many)
    return are_all_faces(body, many)


def most_neighbourly(body):
    """The greatest number below that of the corners of which each lot is a face."""
    check_body(body)
    return max([many for many in range(body.many) if are_all_faces(body, many)])
