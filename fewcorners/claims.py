"""Claims, their contraries, and the papers of both."""
from fewcorners.balances import balance, is_balance, is_balanced, is_tipping, tipping
from fewcorners.basics import copied, is_list
from fewcorners.bodies import Body
from fewcorners.corners import corner_form, is_corner, is_corner_form, is_mixture, mixture
from fewcorners.errors import InvalidClaim
from fewcorners.faces import face_form, is_face, is_face_form, is_open_sum, open_sum
from fewcorners.likeness import alike, is_alike
from fewcorners.lists import facets
from fewcorners.places import is_lot, is_place
from fewcorners.steps import excess, is_points
from fewcorners.wheels import is_wheel
from fewcorners.words import is_word, word_of

PAIRS = (
    ("corner", "inner"), ("face", "open"), ("balanced", "tipped"), ("alike", "unlike"), ("simplicial", "folded"),
)


def words():
    """The list of the tuples of the two words of each line."""
    return list(PAIRS)


def pair_of(word):
    """The tuple of both words of the line that has this one; None unless it is a word of the table."""
    for pair in PAIRS:
        if word in pair:
            return pair
    return None


def are_parts(first, parts):
    """Whether the parts are of the kinds that the line with this first word wants."""
    if len(parts) != (1 if first == "simplicial" else 2):
        return False
    if first == "corner":
        return is_points(parts[0]) and excess(parts[0]) <= 2 and is_place(parts[1], len(parts[0]))
    if first == "face":
        return isinstance(parts[0], Body) and is_lot(parts[1], parts[0].many)
    if first == "balanced":
        return is_wheel(parts[0]) and is_lot(parts[1], len(parts[0]))
    return all([isinstance(part, Body) for part in parts])


def is_claim(value):
    """Whether the value is a claim."""
    if not isinstance(value, tuple) or len(value) == 0 or pair_of(value[0]) is None:
        return False
    return are_parts(pair_of(value[0])[0], value[1:])


def check_claim(claim):
    """InvalidClaim unless a claim."""
    if not is_claim(claim):
        raise InvalidClaim(claim)


def large_facets(body):
    """The list of all facets that have more corners than the body's size."""
    return [facet for facet in facets(body) if len(facet) > body.size]


def is_first_true(first, parts):
    """Whether the claim of this first word of a line is true of the parts."""
    if first == "corner":
        return is_corner(parts[0], parts[1])
    if first == "face":
        return is_face(parts[0], parts[1])
    if first == "balanced":
        return is_balanced(parts[0], parts[1])
    if first == "alike":
        return word_of(parts[0]) == word_of(parts[1])
    return len(large_facets(parts[0])) == 0


def is_true(claim):
    """Whether the claim is true."""
    check_claim(claim)
    first, _ = pair_of(claim[0])
    return is_first_true(first, claim[1:]) == (claim[0] == first)


def contrary(claim):
    """The contrary claim."""
    check_claim(claim)
    first, second = pair_of(claim[0])
    word = second if claim[0] == first else first
    parts = copied(claim[1:])
    return (word, *parts)


def paper_of(claim):
    """A paper of the claim; None if it is not true."""
    check_claim(claim)
    word, *parts = claim
    if word == "corner":
        return corner_form(parts[0], parts[1])
    if word == "inner":
        return mixture(parts[0], parts[1])
    if word == "face":
        return face_form(parts[0], parts[1])
    if word == "open":
        return open_sum(parts[0], parts[1])
    if word == "balanced":
        return balance(parts[0], parts[1])
    if word == "tipped":
        return tipping(parts[0], parts[1])
    if word == "alike":
        return alike(parts[0], parts[1])
    if not is_true(claim):
        return None
    if word == "unlike":
        return word_of(parts[0]), word_of(parts[1])
    return facets(parts[0]) if word == "simplicial" else large_facets(parts[0])[0]


def are_unlike_words(body, other, value):
    """Whether the value is a tuple of the words of both bodies, and these are unlike."""
    if not isinstance(value, tuple) or len(value) != 2 or not all([is_word(told) for told in value]):
        return False
    one, two = [(peaks, list(numbers)) for peaks, numbers in value]
    return one == word_of(body) and two == word_of(other) and one != two


def are_small_facets(body, value):
    """Whether the value is a list of all facets, each once, and none has more corners than the body's size."""
    if not is_list(value) or not all([is_lot(lot, body.many) for lot in value]):
        return False
    return sorted([list(lot) for lot in value]) == facets(body) and len(large_facets(body)) == 0


def is_large_facet(body, value):
    """Whether the value is a facet with more corners than the body's size."""
    return is_lot(value, body.many) and list(value) in large_facets(body)


def is_paper_of(claim, value):
    """Whether the value is a paper of the claim."""
    check_claim(claim)
    word, *parts = claim
    if word == "corner":
        return is_corner_form(parts[0], parts[1], value)
    if word == "inner":
        return is_mixture(parts[0], parts[1], value)
    if word == "face":
        return is_face_form(parts[0], parts[1], value)
    if word == "open":
        return is_open_sum(parts[0], parts[1], value)
    if word == "balanced":
        return is_balance(parts[0], parts[1], value)
    if word == "tipped":
        return is_tipping(parts[0], parts[1], value)
    if word == "alike":
        return is_alike(parts[0], parts[1], value)
    if word == "unlike":
        return are_unlike_words(parts[0], parts[1], value)
    return are_small_facets(parts[0], value) if word == "simplicial" else is_large_facet(parts[0], value)
