"""Promises [4], [51] to [57]: words, runs, which words there are, and what keeps them."""
import functools
import itertools
import random
import unittest
from fractions import Fraction

from fewcorners.balances import is_balanced
from fewcorners.bodies import Body, moved, simplex
from fewcorners.errors import InvalidBody, InvalidWheel, InvalidWord
from fewcorners.ratios import Ratio
from fewcorners.wheels import in_letters, peaks
from fewcorners.words import is_word, keeping, runs, word, word_of
from tests.helpers import Wrong, any_kinds, fractions, kinds, raised, some_lots, told_otherwise
from tests.samples import BIPYRAMID, PENTAGON, PRISM, SIX, SQUARE, curved, flat, over, some_bodies, some_wheels
from tests.test_wheels import FIVE, NEARLY, RING, THREE, some_tables

FIVES = (0, [0, 1, 0, 1, 0, 1, 0, 1, 0, 1])
MANY = [[1, 0], [0, -1], [0, 1], [-1, 0], [-1, -1], [1, 1]]


def turns_and_mirrors(items):
    """What turning and mirroring makes of a list, in all ways: two numbers are but exchanged."""
    if len(items) < 3:
        return [list(told) for told in itertools.permutations(items)]
    found = []
    for step in (1, -1):
        for first in range(len(items)):
            found.append([items[(first + step * at) % len(items)] for at in range(len(items))])
    return found


def places_of(wheel):
    """The positions at the ends of all diameters in turn, of spokes of two numbers, reckoned here by slopes."""
    ends = {}
    for at, (east, north) in enumerate([fractions(spoke) for spoke in wheel]):
        if east or north:
            upper = north > 0 or (north == 0 and east > 0)
            slope = (0, 0) if north == 0 else (1, Fraction(-east, north))
            ends.setdefault(slope, ([], []))[0 if upper else 1].append(at)
    slopes = sorted(ends)
    return [ends[slope][0] for slope in slopes] + [ends[slope][1] for slope in slopes]


def mergeable(places):
    half = len(places) // 2
    return [at for at in range(len(places)) if places[at] and places[(at + 1) % len(places)]
            and not places[(at + half) % len(places)] and not places[(at + 1 + half) % len(places)]]


def merged_places(wheel, chance):
    """The places left by merging in a sequence that came by chance."""
    places = places_of(wheel)
    while mergeable(places):
        at = chance.choice(mergeable(places))
        half = len(places) // 2
        places = [places[(at + step) % len(places)] for step in range(len(places))]
        places = [places[0] + places[1]] + places[2:half] + [[]] + places[half + 2:]
    return [sorted(lot) for lot in places]


def word_by_merging(wheel, chance):
    """The word by the words of [53], reckoned here."""
    if len(wheel[0]) == 1:
        signs = [fractions(spoke)[0] for spoke in wheel]
        return signs.count(0), sorted([sum(sign > 0 for sign in signs), sum(sign < 0 for sign in signs)])
    bare = sum(not any(fractions(spoke)) for spoke in wheel)
    numbers = [len(lot) for lot in merged_places(wheel, chance)]
    return bare, min(turns_and_mirrors(numbers))


def lists_of(total, half):
    """All lists of 2 half COUNTS that add up to total, of each two opposite ones one at least above 0."""
    def parts(left, many):
        if many == 1:
            return [[left]]
        return [[first] + rest for first in range(1, left - many + 2) for rest in parts(left - first, many - 1)]
    for sums in parts(total, half):
        for first in itertools.product(*[range(one + 1) for one in sums]):
            yield list(first) + [one - its for one, its in zip(sums, first)]


@functools.cache
def words_of(many):
    """All words of so many corners, by is_word."""
    found = [(many, [])] + [(many - one - other, [one, other]) for one in range(10) for other in range(10) if one + other <= many]
    for bare in range(many):
        for half in range(2, many - bare + 1):
            found += [(bare, numbers) for numbers in lists_of(many - bare, half)]
    return [told for told in found if is_word(told)]


def is_word_of_two_numbers(value):
    """Whether a tuple of a COUNT and a list of COUNTS of an even length from 4 on is a word by the words of [54]."""
    bare, numbers = value
    many = len(numbers)
    half = many // 2
    return (bare + sum(numbers) <= 9 and all(numbers[at] or numbers[at - half] for at in range(many)) and not mergeable(numbers)
            and all(sum(numbers[(first + at) % many] for at in range(half - 1)) >= 2 for first in range(many))
            and numbers == min(turns_and_mirrors(numbers)))


class WordTest(unittest.TestCase, Wrong):
    def test_by_merging_in_any_sequence(self):
        chance = random.Random(71)
        seen = set()
        for wheel in some_wheels():
            told = self.check_new(word, wheel)
            for _ in range(3):
                self.assertEqual(told, word_by_merging(wheel, chance))
            self.assertEqual([type(told), type(told[0]), type(told[1]), {type(number) for number in told[1]}],
                             [tuple, int, list, {int}])
            self.assertIs(is_word(told), True)
            self.assertEqual(told[0] + sum(told[1]), len(wheel))
            self.assertEqual(told[0], len(peaks(wheel)))
            seen.add((told[0], len(told[1])))
        self.assertGreater(len(seen), 10)

    def test_letters_and_names_of_spokes_do_not_count(self):
        chance = random.Random(72)
        for wheel in some_wheels()[::2]:
            told = word(wheel)
            for table in some_tables(73, len(wheel[0]), 2):
                self.assertEqual(word(in_letters(wheel, table)), told)
            named = list(wheel)
            chance.shuffle(named)
            self.assertEqual(word(wheel=named), told)
            self.assertEqual([word(told_otherwise(wheel)), runs(told_otherwise(wheel))], [told, runs(wheel)])

    def test_words_of_one_number(self):
        self.assertEqual(word([[2], [-1], [1], [-2], [0]]), (1, [2, 2]))
        self.assertEqual(word([[1], [1], [1], [1], [-2], [-2]]), (0, [2, 4]))
        self.assertEqual(word([[-1], [-1], [-1], [-1], [2], [2]]), (0, [2, 4]))
        self.assertEqual(word([[0]] * 5 + RING), (5, [2, 2]))

    def test_words_of_two_numbers(self):
        self.assertEqual(word(THREE), (0, [0, 2, 0, 2, 0, 2]))
        self.assertEqual(word(THREE + [[0, 0]] * 3), (3, [0, 2, 0, 2, 0, 2]))
        self.assertEqual(word(FIVE), FIVES)
        self.assertEqual(word(MANY), (0, [1, 1, 1, 1, 1, 1]))
        self.assertEqual(word([[1, 0], [1, 0], [-1, 0], [-1, 0], [0, 1], [0, 1], [0, -1], [0, -1], [0, 0]]), (1, [2, 2, 2, 2]))

    def test_merging_over_the_seam_and_until_there_is_nothing_to_merge(self):
        fan = [[3, 1], [3, -1], [-2, 3], [-1, 3], [-2, -3], [-1, -3]]
        self.assertEqual(word(fan), (0, [0, 2, 0, 2, 0, 2]))
        wide = [[4, 0], [4, 1], [4, -1], [-3, 4], [-4, 4], [-5, 4], [-1, -4], [0, -4], [1, -4]]
        self.assertEqual(word(wide), (0, [0, 3, 0, 3, 0, 3]))

    def test_a_diameter_with_beams_at_both_ends_is_not_merged(self):
        self.assertEqual(word([[1, 0], [2, 1], [-2, 0], [-1, 1], [0, -1], [0, -1]]), (0, [0, 1, 1, 0, 1, 1, 0, 2]))
        self.assertEqual(word([[1, 0], [9, 1], [-9, 1], [-1, 0], [0, -1], [0, -1]]), (0, [0, 1, 1, 0, 1, 1, 0, 2]))
        self.assertEqual(word([[1, 0], [1, 0], [0, 1], [0, 1], [-1, 0], [-1, 0], [0, -1], [0, -1]]), (0, [2, 2, 2, 2]))


class WordOfTest(unittest.TestCase, Wrong):
    def test_it_is_that_of_the_wheel(self):
        for body in some_bodies():
            told = self.check_new(word_of, body)
            self.assertEqual(told, (body.many, []) if body.excess == 0 else word(body.wheel()))
            self.assertEqual([type(told), type(told[0]), type(told[1])], [tuple, int, list])
            self.assertEqual(len(told[1]) // 2 == 0, body.excess == 0)
            self.assertEqual(word_of(body=body), told)
            self.assertIs(is_word(told), True)

    def test_some(self):
        bodies = {
            (2, ()): simplex(2), (9, ()): simplex(9), (0, (2, 2)): Body(SQUARE), (1, (2, 2)): Body(over(SQUARE)),
            (0, (2, 3)): Body(BIPYRAMID), (0, (3, 3)): Body(curved(6, 4)), (0, (0, 1) * 5): Body(PENTAGON),
            (1, (0, 1) * 5): Body(over(PENTAGON)), (2, (0, 1) * 5): Body(over(over(PENTAGON))), (0, (0, 2) * 3): Body(SIX),
            (0, (1,) * 6): Body(PRISM), (0, (0, 1) * 7): Body(curved(7, 4)), (0, (0, 1) * 9): Body(curved(9, 6)),
            (0, (0, 1, 0, 1, 0, 1, 0, 1, 0, 2)): Body(curved(6, 3)),
        }
        for (bare, numbers), body in bodies.items():
            self.assertEqual(word_of(body), (bare, list(numbers)))
            if body.excess:
                self.assertEqual(word_of(moved(body, flat_rows(len(body.points()[0])), [0] * 8)), word_of(body))

    def test_simplices(self):
        for many in range(2, 10):
            self.assertEqual(word_of(simplex(many)), (many, []))
            self.assertIs(type(raised(word, simplex(many).wheel())), InvalidWheel)
        self.assertEqual(word_of(Body(flat([[0], [5]], 2))), (2, []))


def flat_rows(high):
    return [[int(row == at) + 2 * int(at > high) for at in range(8)] for row in range(high)]


class RunsTest(unittest.TestCase, Wrong):
    def test_they_belong_to_the_numbers_of_the_word(self):
        chance = random.Random(74)
        for wheel in some_wheels():
            told = self.check_new(runs, wheel)
            self.assertEqual([len(lot) for lot in told], word(wheel)[1])
            self.assertEqual(sorted([at for lot in told for at in lot] + peaks(wheel)), list(range(len(wheel))))
            self.assertTrue(all(type(lot) is list and lot == sorted(lot) for lot in told))
            if len(wheel[0]) == 2:
                self.assertIn(told, turns_and_mirrors(merged_places(wheel, chance)))
            else:
                signs = [{fractions(wheel[at])[0] > 0 for at in lot} for lot in told]
                self.assertIn(signs, [[{True}, {False}], [{False}, {True}]])

    def test_some(self):
        self.assertIn(runs(RING), [[[0, 2], [1, 3]], [[1, 3], [0, 2]]])
        self.assertEqual(runs([[3], [-1], [-1], [0], [-2], [1]]), [[0, 5], [1, 2, 4]])
        self.assertEqual(runs([[-3], [1], [1], [0], [2], [-1]]), [[0, 5], [1, 2, 4]])
        told = [[], [0, 1], [], [2, 3], [], [4, 5]]
        self.assertIn(runs(wheel=THREE), [made for made in turns_and_mirrors(told) if made[0] == []])

    def test_which_lots_balance_hangs_on_the_runs_that_they_touch(self):
        for at, wheel in enumerate(some_wheels()):
            told = runs(wheel)
            answers = {}
            for lot in some_lots(at, len(wheel), 100):
                touched = tuple(index for index, run in enumerate(told) if set(run) & set(lot))
                answers.setdefault(touched, set()).add(is_balanced(wheel, lot))
            self.assertTrue(all(len(found) == 1 for found in answers.values()))

    def test_a_beam_that_is_turned_but_does_not_reach_an_opposite_one(self):
        wheel = [[1, 0]] * 3 + [[0, 1]] * 3 + [[-1, -1]] * 3
        turned = [[1, Ratio(1, 2)], [1, 0], [1, 0]] + [[0, Ratio(5, 6)]] * 3 + [[-1, -1]] * 3
        reached = [[1, 1], [1, 0], [1, 0]] + [[0, Ratio(2, 3)]] * 3 + [[-1, -1]] * 3
        self.assertEqual([word(turned), sorted(runs(turned))], [word(wheel), sorted(runs(wheel))])
        for lot in some_lots(0, 9, 200):
            self.assertIs(is_balanced(turned, lot), is_balanced(wheel, lot))
        self.assertEqual([word(wheel), word(reached)], [(0, [0, 3, 0, 3, 0, 3]), (0, [0, 2, 1, 3, 0, 3])])
        self.assertEqual([is_balanced(turned, [0, 6]), is_balanced(reached, [0, 6])], [False, True])


class IsWordTest(unittest.TestCase, Wrong):
    def test_words(self):
        yes = [(0, [2, 2]), (5, [2, 2]), (0, (2, 3)), (0, [4, 5]), (2, []), (9, ()), FIVES, (4, FIVES[1]),
               (0, [0, 2, 0, 2, 0, 2]),
               (0, tuple(FIVES[1])), (0, [1, 1, 1, 1, 1, 1]), (1, [2, 2, 2, 2]), (0, [0, 1] * 9),
               (0, [0, 3, 0, 3, 0, 3]), (3, [0, 2] * 3)]
        self.check_asked(is_word, {}, "value", True, yes)

    def test_no_words_for_each_single_reason(self):
        no = [
            (0, []), (1, []), (10, []), (10 ** 40, []),
            (0, [1, 3]), (0, [3, 2]), (0, [0, 2]), (6, [2, 2]), (0, [2, 8]), (0, [4, 6]), (2, [1, 1]), (0, [0, 0]),
            (0, [2, 2, 2]), (0, [2]), (0, [0, 2, 0, 2, 0]), (3, [3]), (0, [1] * 7), (2, [1] * 7), (0, [1] * 9),
            (0, [0, 0, 2, 0, 2, 2]), (0, [0, 2, 0, 2, 0, 2, 0, 0]), (0, [0, 0, 0, 0]), (3, [0, 0] * 3),
            (0, [0, 0, 0, 0, 2, 2]), (0, [0, 0, 2, 0, 2, 2, 0, 2]), (0, [0, 0, 2, 2, 1, 0, 2, 2]),
            (0, [0, 0, 1, 0, 0, 2, 2, 0, 2, 2]),
            (0, [0, 1, 0, 2, 0, 2]), (0, [1, 2, 2, 2]), (0, [0, 2, 2, 2]), (0, [0, 1, 1, 1, 1, 1]), (0, [0, 1, 0, 1, 0, 1]),
            (0, [2, 0, 2, 0, 2, 0]), (0, [0, 2, 0, 1, 0, 1, 0, 1, 0, 1]), (0, [1, 0] * 5), (0, [0, 2, 1, 1, 1, 1]),
            (0, [2, 3, 2, 2]),
            (5, FIVES[1]), (4, [0, 2, 0, 2, 0, 2]), (0, [0, 4, 0, 3, 0, 3]), (2, [2, 2, 2, 2]), (0, [0, 1] * 10),
            (0, [0, 1] * 100),
            [0, [2, 2]], (0, 2, 2), (0, [2, 2], 0), (0,), (), ([2, 2], 0), (0, {2: 2}), (0, "22"), (0, {2, 3}),
            (0, range(2, 4)), (0, None),
            (-1, [2, 2]), (True, [2, 2]), (False, [2, 2]), (0, [2, True]), (0, [Ratio(2), 2]), (Ratio(0), [2, 2]), (Ratio(2), []),
            (0, [2, "2"]), ("0", [2, 2]), (0, [[2], [2]]), (0, [2, -2]), (0, [3, 3, -1, 4]), (None, [2, 2]),
            (0, b"\x02\x02"), (0, [None, 2]),
            (0, [2, 2.0]), (0.0, [2, 2]), (2, [[]]), (2, None), (2,), 2, [2, []], (0, [-1, 10]),
        ]
        self.check_asked(is_word, {}, "value", False, no + any_kinds())

    def test_by_the_words_of_the_document(self):
        seen = {True: 0, False: 0}
        for total in range(4, 8):
            for numbers in itertools.chain(*[lists_of(total, half) for half in range(2, total + 1)]):
                wanted = is_word_of_two_numbers((0, numbers))
                self.assertIs(is_word((0, numbers)), wanted, numbers)
                self.assertIs(is_word((9 - total, tuple(numbers))), wanted)
                self.assertIs(is_word((10 - total, numbers)), False)
                seen[wanted] += 1
        self.assertGreater(min(seen.values()), 30)
        chance = random.Random(75)
        for _ in range(2000):
            value = (chance.randint(0, 3), [chance.choice((0, 0, 1, 1, 2, 3)) for _ in range(2 * chance.randint(2, 5))])
            self.assertIs(is_word(value), is_word_of_two_numbers(value), value)

    def test_how_many_words_there_are(self):
        for many in range(2, 10):
            found = words_of(many)
            lengths = [len(numbers) for _, numbers in found]
            self.assertEqual(lengths.count(0), 1)
            self.assertEqual(lengths.count(2), (many - 2) ** 2 // 4)
            two = [bare for bare, numbers in found if len(numbers) > 2]
            self.assertEqual([len(two), two.count(0)], {5: [1, 1], 6: [7, 6], 7: [31, 24], 8: [116, 85],
                                                        9: [379, 263]}.get(many, [0, 0]))


class KeepingTest(unittest.TestCase, Wrong):
    def test_how_many_turns_and_mirrors_keep_it(self):
        for many in range(2, 10):
            for told in words_of(many):
                found = turns_and_mirrors(told[1])
                self.assertEqual(len(found), {0: 1, 2: 2}.get(len(told[1]), 2 * len(told[1])))
                kept = keeping(told)
                self.assertEqual([kept, type(kept)], [found.count(told[1]), int])
                self.assertEqual(keeping(word=(told[0], tuple(told[1]))), kept)

    def test_some(self):
        self.assertEqual([keeping(FIVES), keeping((4, FIVES[1])), keeping((7, [])), keeping((0, [2, 2])), keeping((0, [2, 3]))],
                         [10, 10, 1, 2, 1])
        self.assertEqual([keeping((0, [0, 2, 0, 2, 0, 2])), keeping((0, [1] * 6)), keeping((0, [2] * 4)),
                          keeping((0, [0, 1] * 9))],
                         [6, 12, 8, 18])
        self.assertEqual([keeping((0, [0, 2, 0, 2, 0, 3])), keeping((0, [0, 2, 0, 3, 0, 4])),
                          keeping((0, [0, 2, 1, 3, 0, 3]))], [2, 1, 1])


class WrongCallsTest(unittest.TestCase, Wrong):
    def test_wrong_values(self):
        for function in (word, runs):
            self.check_wrong(function, {}, "wheel", InvalidWheel, NEARLY + kinds() + [[[]] * 4])
        self.check_wrong(word_of, {}, "body", InvalidBody, kinds() + [SQUARE, RING, [Body(SQUARE)], Body])
        self.check_wrong(keeping, {}, "word", InvalidWord,
                         kinds() + [(0, [1, 3]), [0, [2, 2]], (0, [3, 2]), (0, []), (0, [2, 2], 0), (0, [2, 0] * 3),
                                    Body(SQUARE)])
