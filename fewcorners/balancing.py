"""Which whole spokes balance, and by what numbers.

Spokes are here lists of lists of integers, all of none, of one or of two of
them. By the theorem of Gordan and Stiemke they have a balance or a tipping,
never both.
"""
from fewcorners.elimination import without_common_part


def dot(first, second):
    """The sum of the products of the numbers of both lists."""
    return sum([one * other for one, other in zip(first, second)])


def cross(first, second):
    """Above 0 if the second spoke is turned from the first one against the clock, 0 if they lie on one line."""
    return first[0] * second[1] - first[1] * second[0]


def quarter_turns(spokes):
    """Each spoke of two numbers, turned by a quarter in either sense: the normals of the line that it lies on."""
    turns = [[[-spoke[1], spoke[0]], [spoke[1], -spoke[0]]] for spoke in spokes if len(spoke) == 2]
    return [turn for both in turns for turn in both]


def tipping_by(spokes):
    """A normal whose products with all spokes are 0 or above, one of them above; None if the spokes balance.

    If the spokes lie on one line, one of them tips if any normal does. If not,
    the normals with no product below 0 are nought alone, or what lies between
    two quarter turns of spokes, and these tip.
    """
    for normal in spokes + quarter_turns(spokes):
        products = [dot(normal, spoke) for spoke in spokes]
        if min(products) >= 0 and max(products) > 0:
            return normal
    return None


def spread(many, places, numbers):
    """So many integers: the numbers at the places, 0 else."""
    given = dict(zip(places, numbers))
    return [given.get(at, 0) for at in range(many)]


def pair_numbers(first, second):
    """Numbers above 0 by which two spokes in opposite directions balance; None unless they are such."""
    if cross(first, second) != 0 or dot(first, second) >= 0:
        return None
    return [abs(second[0]) + abs(second[1]), abs(first[0]) + abs(first[1])]


def triple_numbers(first, second, third):
    """Numbers above 0 by which three spokes balance that have nought strictly among them; None unless they do."""
    numbers = [cross(second, third), cross(third, first), cross(first, second)]
    if min(numbers) <= 0 and max(numbers) >= 0:
        return None
    return [abs(number) for number in numbers]


def least_balances(spokes):
    """For each least balanced lot a tuple of it and numbers above 0 by which it balances, single spokes first."""
    flat = [(spoke + [0, 0])[:2] for spoke in spokes]
    many = len(flat)
    found = [([at], [1]) for at in range(many) if flat[at] == [0, 0]]
    for first in range(many):
        for second in range(first + 1, many):
            found.append(([first, second], pair_numbers(flat[first], flat[second])))
            for third in range(second + 1, many):
                numbers = triple_numbers(flat[first], flat[second], flat[third])
                found.append(([first, second, third], numbers))
    return [(lot, without_common_part(numbers)) for lot, numbers in found if numbers is not None]


def covering_balances(spokes):
    """Some least balanced lots that hold all spokes together, with their numbers; None if some spoke is in none.

    So None unless the spokes balance: lots that do are joined of such ones.
    """
    kept = []
    held = {}
    for lot, numbers in least_balances(spokes):
        if any([at not in held for at in lot]):
            kept.append((lot, numbers))
            for at in lot:
                held[at] = True
    return kept if len(held) == len(spokes) else None


def balance_by(spokes):
    """Integers above 0 by which all the spokes come to nought together; None unless they balance."""
    parts = covering_balances(spokes)
    if parts is None:
        return None
    added = [0] * len(spokes)
    for lot, numbers in parts:
        added = [one + other for one, other in zip(added, spread(len(spokes), lot, numbers))]
    return without_common_part(added)
