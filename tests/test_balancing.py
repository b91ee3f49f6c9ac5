"""What the papers of points and lots are made of: balances and tippings of whole spokes, promises [4], [34], [35]."""
import itertools
import random
import unittest

from fewcorners.balancing import covering_balances, least_balances, tipping_by
from tests.helpers import some_numbers


def lots_of_spokes(seed, many, longest):
    """Lists of spokes of no number, of one or two from -2 to 2, so that many of them lie on one line."""
    chance = random.Random(seed)
    found = [[], [[]], [[], []], [[0]], [[0, 0]], [[1, 0], [-1, 0]], [[0, 1], [-1, 0], [1, 0], [0, -1], [0, 2]]]
    while len(found) < many:
        wide = chance.randint(1, 2)
        found.append([some_numbers(chance, wide, 2) for _ in range(chance.randint(1, longest))])
    return found


def products(normal, spokes):
    return [sum(one * other for one, other in zip(normal, spoke)) for spoke in spokes]


def tips(normal, spokes):
    return min(products(normal, spokes)) >= 0 and max(products(normal, spokes)) > 0


def balances(spokes):
    """Whether no normal all round tips the spokes, whose numbers are at most two."""
    wide = len(spokes[0]) if spokes else 0
    return not any(tips(normal, spokes) for normal in itertools.product(range(-5, 6), repeat=wide) if spokes)


def brought_to_nought(spokes, numbers):
    return all(sum(number * spoke[at] for number, spoke in zip(numbers, spokes)) == 0 for at in range(len(spokes[0])))


class BalancingTest(unittest.TestCase):
    def test_a_tipping_or_a_balance_and_never_both(self):
        found = {True: 0, False: 0}
        for spokes in lots_of_spokes(51, 300, 8):
            tipping, parts = tipping_by(spokes), covering_balances(spokes)
            self.assertEqual(tipping is None, parts is not None)
            self.assertEqual(tipping is None, balances(spokes), spokes)
            found[tipping is None] += 1
            if parts is None:
                self.assertTrue(tips(tipping, spokes))
            else:
                self.assertEqual({at for lot, _ in parts for at in lot}, set(range(len(spokes))))
                self.check_parts(spokes, parts)
        self.assertGreater(min(found.values()), 40)

    def check_parts(self, spokes, parts):
        for lot, numbers in parts:
            self.assertEqual(len(lot), len(numbers))
            self.assertTrue(all(number > 0 for number in numbers), (spokes, lot, numbers))
            self.assertTrue(brought_to_nought([spokes[at] for at in lot], numbers))

    def test_least_balanced_lots(self):
        for spokes in lots_of_spokes(52, 150, 6):
            told = least_balances(spokes)
            self.check_parts(spokes, told)
            kept = [lot for many in range(1, len(spokes) + 1) for lot in itertools.combinations(range(len(spokes)), many)
                    if balances([spokes[at] for at in lot])]
            least = [lot for lot in kept if not any(set(other) < set(lot) for other in kept)]
            self.assertEqual(sorted(tuple(lot) for lot, _ in told), sorted(least))
