"""Promises [4], [93], [94]: claims, their contraries, and the papers of both."""
import itertools
import random
import unittest

from fewcorners.balances import is_balance, is_balanced, is_tipping
from fewcorners.bodies import Body, simplex
from fewcorners.claims import contrary, is_claim, is_paper_of, is_true, paper_of, words
from fewcorners.corners import is_corner, is_corner_form, is_mixture
from fewcorners.errors import InvalidClaim
from fewcorners.faces import is_face, is_face_form, is_open_sum
from fewcorners.likeness import is_alike
from fewcorners.lists import facets
from fewcorners.ratios import Ratio
from fewcorners.words import is_word, word_of
from tests.helpers import Wrong, any_kinds, few_points, kinds, longest, raised, some_lots, told_otherwise
from tests.samples import BIPYRAMID, PENTAGON, PRISM, SIX, SQUARE, curved, over, some_bodies, some_wheels
from tests.test_wheels import NEARLY, RING, THREE

LINES = [("corner", "inner"), ("face", "open"), ("balanced", "tipped"), ("alike", "unlike"), ("simplicial", "folded")]
WORDS = [word for line in LINES for word in line]
NOT_FEW = [[0], [1], [2], [3], [4]]
SOME = [[0, 0], [4, 0], [0, 4], [1, 1]]


def parts_of_lines():
    """By the first word of each line some parts, with which both of its words make a claim."""
    bodies = some_bodies()
    chance = random.Random(95)
    pairs = [(chance.choice(bodies), chance.choice(bodies)) for _ in range(20)] + [(body, body) for body in bodies[::6]]
    pairs += [(Body(SQUARE), Body([[0, 0], [2, 0], [1, 3], [1, -1]])), (Body(SQUARE), simplex(4)), (simplex(2), simplex(3))]
    points = few_points(96, 30) + [SOME, [[0], [2], [1]], [[0], [0]], [body.points() for body in bodies[::9]][0]]
    return {
        "corner": [(rows, place) for rows in points for place in range(len(rows))],
        "face": [(body, lot) for at, body in enumerate(bodies[::3]) for lot in some_lots(at, body.many, 8)],
        "balanced": [(wheel, lot) for at, wheel in enumerate(some_wheels()[::4]) for lot in some_lots(at, len(wheel), 8)],
        "alike": pairs,
        "simplicial": [(body,) for body in bodies],
    }


PARTS = parts_of_lines()


def some_claims():
    """Claims of all words, true ones and others."""
    return [(word, *parts) for line in LINES for parts in PARTS[line[0]] for word in line]


def first_is_true(word, parts):
    """Whether the first claim of a line is true, by the words of the table."""
    if word == "alike":
        return word_of(parts[0]) == word_of(parts[1])
    if word == "simplicial":
        return all(len(facet) == parts[0].size for facet in facets(parts[0]))
    return {"corner": is_corner, "face": is_face, "balanced": is_balanced}[word](*parts)


def is_judged(claim, value):
    """Whether the value is a paper, by the words of the table."""
    word, *parts = claim
    judges = {"corner": is_corner_form, "inner": is_mixture, "face": is_face_form, "open": is_open_sum, "balanced": is_balance,
              "tipped": is_tipping, "alike": is_alike}
    if word in judges:
        return judges[word](*parts, value)
    if word == "unlike":
        good = isinstance(value, tuple) and len(value) == 2 and all(is_word(told) for told in value)
        return good and [(bare, list(numbers)) for bare, numbers in value] == [word_of(part) for part in parts] \
            and word_of(parts[0]) != word_of(parts[1])
    found = facets(parts[0])
    large = [facet for facet in found if len(facet) > parts[0].size]
    if word == "simplicial":
        if not isinstance(value, (list, tuple)) or not all(isinstance(lot, (list, tuple)) for lot in value):
            return False
        plain = all(type(at) is int for lot in value for at in lot)
        return plain and not large and sorted(map(list, value)) == found
    return isinstance(value, (list, tuple)) and list(value) in large and all(type(at) is int for at in value)


def wrong_claims():
    """Tuples and others that are no claims, each for one reason."""
    square = Body(SQUARE)
    return [
        ("corner",), ("corner", SOME), ("corner", SOME, 4), ("corner", SOME, -1), ("corner", SOME, True),
        ("corner", SOME, Ratio(1)),
        ("corner", SOME, [0]), ("corner", SOME, 0, 0), ("corner", 0, SOME), ("corner", square, 0), ("corner", NOT_FEW, 0),
        ("inner", NOT_FEW, 1),
        ("corner", [[0]], 0), ("inner", [[0], [True]], 0), ("inner", SOME, "0"), ("inner", SOME, None), ["corner", SOME, 0],
        ("Corner", SOME, 0),
        ("face", square), ("face", square, [4]), ("face", square, [1, 0]), ("face", square, 0), ("face", square, [True]),
        ("face", SQUARE, [0]),
        ("face", [0], square), ("face", square, [0], []), ("open", square, None), ("open", RING, [0]), ["open", square, [0]],
        ("open", square, [Ratio(0)]),
        ("balanced", RING), ("balanced", RING, [4]), ("balanced", RING, [1, 0]), ("balanced", square, [0]),
        ("balanced", RING[:3], [0]),
        ("tipped", RING, 0), ("tipped", RING, {0}), ("tipped", [[1], [1], [1], [-3]], []), ("tipped", [[], [], [], []], []),
        ("balanced", RING, [], []), ("tipped", None, []), ["balanced", RING, []],
        ("alike", square), ("alike", square, SQUARE), ("alike", SQUARE, square), ("alike", square, square, square), ("unlike",),
        ("unlike", square, None), ("unlike", square, word_of(square)), ["alike", square, square],
        ("simplicial",), ("simplicial", square, square), ("simplicial", SQUARE), ("simplicial", word_of(square)), ("folded",),
        ("folded", [square]),
        ("folded", square, []), ["folded", square], (), ("",), (None, square), (["face"], square, []), (0, square, []),
        (True, square),
        ("holds", square, [0]), ("word", square), ("face ", square, []), (("face", square, []),), (b"face", square, []),
        ("faces", square, []),
        ({"face"}, square, []), (square, "face", []),
    ] + [("balanced", wheel, []) for wheel in NEARLY]


class WordsTest(unittest.TestCase, Wrong):
    def test_in_their_sequence(self):
        told = self.check_new(words)
        self.assertEqual([told, type(told), {type(line) for line in told}], [LINES, list, {tuple}])


class IsClaimTest(unittest.TestCase, Wrong):
    def test_each_word_with_right_parts(self):
        yes = some_claims() + [("corner", tuple(map(tuple, SOME)), 3), ("inner", [[0], [0]], 1), ("face", Body(SQUARE), ()),
                               ("open", simplex(2), (0, 1)), ("balanced", tuple(map(tuple, THREE)), (0, 5)),
                               ("tipped", RING, ())]
        self.check_asked(is_claim, {}, "value", True, yes)

    def test_nothing_is_decided_for_that(self):
        for claim in (("inner", SOME, 0), ("open", Body(SQUARE), []), ("tipped", RING, []), ("unlike", simplex(2), simplex(2)),
                      ("folded", simplex(3)), ("corner", [[0], [0]], 0), ("face", Body(SQUARE), [0, 2]),
                      ("balanced", RING, [0])):
            self.assertIs(is_claim(claim), True)
            self.assertIs(is_true(claim), False)

    def test_no_claims(self):
        self.check_asked(is_claim, {}, "value", False, wrong_claims() + any_kinds() + WORDS + [(word,) for word in WORDS])

    def test_parts_of_all_kinds(self):
        right = {"corner": (SOME, 0), "face": (Body(SQUARE), [0]), "balanced": (RING, [0]), "alike": (Body(SQUARE),
                                                                                                      Body(SQUARE)),
                 "simplicial": (Body(SQUARE),)}
        for line in LINES:
            for word, value in itertools.product(line, any_kinds()):
                parts = right[line[0]]
                for at in range(len(parts)):
                    wanted = (line[0] in ("face", "balanced") and at == 1 and value in ([], ())
                              or line[0] == "corner" and at == 1 and type(value) is int and 0 <= value < 4)
                    self.assertIs(is_claim((word, *parts[:at], value, *parts[at + 1:])), wanted)
                self.assertIs(is_claim((word, *parts[:-1])), False)
                self.assertIs(is_claim((word, *parts, value)), False)


class TruthTest(unittest.TestCase, Wrong):
    def test_just_one_of_both_is_true(self):
        seen = {word: set() for word in WORDS}
        for line in LINES:
            for parts in PARTS[line[0]]:
                wanted = first_is_true(line[0], parts)
                self.assertIs(is_true((line[0], *parts)), wanted)
                self.assertIs(is_true(claim=(line[1], *parts)), not wanted)
                for word in line:
                    seen[word].add(is_true((word, *parts)))
        self.assertEqual(seen, {word: {True, False} for word in WORDS})

    def test_the_contrary(self):
        for claim in some_claims():
            told = self.check_new(contrary, claim)
            line = [line for line in LINES if claim[0] in line][0]
            self.assertEqual([told[0] in line, told[0] != claim[0], type(told)], [True, True, tuple])
            self.assertEqual([told[1:], contrary(claim=claim), contrary(told)], [claim[1:], told, claim])
            self.assertIs(is_true(told), not is_true(claim))

    def test_the_contrarys_parts_are_as_they_were_passed_but_new(self):
        rows = [(0, 0), [Ratio(4), 0], (Ratio(0), 4), [1, 1]]
        told = contrary(("corner", rows, 3))
        self.assertEqual(repr(told), repr(("inner", rows, 3)))
        rows[0] = None
        rows[1][0] = 9
        self.assertEqual(repr(told), repr(("inner", [(0, 0), [Ratio(4), 0], (Ratio(0), 4), [1, 1]], 3)))
        lot = [0, 1]
        for word, part in (("face", Body(SQUARE)), ("balanced", [list(spoke) for spoke in RING])):
            told = contrary((word, part, lot))
            told[2].append(3)
            self.assertEqual(lot, [0, 1])
        told = contrary(("face", Body(SQUARE), (0, 1)))
        self.assertEqual(told, ("open", Body(SQUARE), (0, 1)))
        self.assertIs(type(told[2]), tuple)


class PapersTest(unittest.TestCase, Wrong):
    def test_a_paper_is_there_exactly_if_the_claim_is_true(self):
        for claim in some_claims():
            paper = self.check_new(paper_of, claim)
            self.assertEqual(paper is not None, is_true(claim))
            self.assertEqual(paper_of(claim=claim), paper)
            if paper is not None:
                self.assertIs(is_paper_of(claim, paper), True)
                self.assertIs(is_paper_of(value=paper, claim=claim), True)
                self.assertIs(is_paper_of(contrary(claim), paper), False)
                self.assertTrue(is_judged(claim, paper))
                self.assertEqual(paper_of(otherwise(claim)), paper)
                self.assertLess(digits(paper), 2000)

    def test_integers_ratios_and_tuples_where_lists_may_stand(self):
        for claim in some_claims()[::3]:
            paper = paper_of(claim)
            if paper is not None and claim[0] in WORDS[:6]:
                self.assertIs(is_paper_of(otherwise(claim), told_otherwise(paper)), True)

    def test_papers_that_are_let_by_the_table(self):
        square = Body(SQUARE)
        yes = [
            (("corner", SOME, 0), ([1, 1], 0)), (("corner", SOME, 0), ((1, Ratio(2)), 0)),
            (("inner", SOME, 3), [Ratio(1, 2), Ratio(1, 4), Ratio(1, 4), 0]),
            (("face", square, [0, 1]), ([0, 3], 0)), (("open", square, [0, 2]), [-1, 1, -1, 1]), (("open", square, (0, 2)),
                                                                                                  (-2, 2, Ratio(-2), 2)),
            (("balanced", THREE, [0, 2, 4]), [2, 2, 2]), (("balanced", RING, []), []), (("tipped", THREE, [0, 2]), [1, 0]),
            (("alike", square, Body([[0, 0], [2, 0], [1, -1], [1, 3]])), (0, 2, 1, 3)),
            (("unlike", square, simplex(4)), ((0, [2, 2]), (4, []))), (("unlike", square, simplex(4)), ((0, (2, 2)), (4, ()))),
            (("unlike", simplex(3), square), ((3, []), (0, [2, 2]))),
            (("simplicial", square), [[1, 2], [0, 1], [2, 3], [0, 3]]), (("simplicial", square), ((0, 3), [1, 2], (0, 1),
                                                                                                  (2, 3))),
            (("simplicial", simplex(2)), [[1], [0]]), (("folded", Body(over(SQUARE))), [0, 1, 2, 3]), (("folded", Body(PRISM)),
                                                                                                       (0, 2, 3, 5)),
        ]
        for claim, paper in yes:
            self.assertIs(is_paper_of(claim, paper), True, (claim, paper))
            self.assertIs(is_paper_of(contrary(claim), paper), False)

    def test_papers_with_one_thing_otherwise(self):
        square, tent, simple = Body(SQUARE), Body(over(SQUARE)), Body(SIX)
        found = facets(square)
        no = [
            (("corner", SOME, 0), [[1, 1], 0]), (("corner", SOME, 0), ([1, 0], 0)), (("corner", SOME, 0), ([1, 1], 1)),
            (("corner", SOME, 0), ([True, 1], 0)),
            (("corner", SOME, 0), ([1, 1], False)), (("corner", SOME, 3), ([1, 1], 0)),
            (("inner", SOME, 3), [Ratio(1, 2), Ratio(1, 4), Ratio(1, 4), 1]),
            (("inner", SOME, 3), [Ratio(1, 2), Ratio(1, 4), Ratio(1, 2), 0]), (("inner", SOME, 3), [Ratio(1, 2), Ratio(1, 4),
                                                                                                    Ratio(1, 4), False]),
            (("inner", SOME, 3), [1, 0, 0, 0]), (("inner", SOME, 0), [1, 0, 0, 0]), (("face", square, [0, 1]), [[0, 3], 0]),
            (("face", square, [0, 1]), ([0, -3], 0)), (("face", square, [0, 1]), ([0, 3, 0], 0)), (("face", square, [0, 2]),
                                                                                                   ([0, 0], 0)),
            (("open", square, [0, 2]), [1, -1, 1, -1]), (("open", square, [0, 2]), [0, 0, 0, 0]), (("open", square, [0, 2]),
                                                                                                   [-1, 1, -1]),
            (("open", square, [0, 2]), [-1, True, -1, True]), (("open", square, [0, 1]), [-1, 1, -1, 1]),
            (("balanced", THREE, [0, 2, 4]), [2, 2, 1]), (("balanced", THREE, [0, 2, 4]), [0, 0, 0]),
            (("balanced", THREE, [0, 2, 4]), [2, 2]),
            (("balanced", THREE, [0, 2, 4]), [True, True, True]), (("balanced", RING, []), [0]), (("tipped", THREE, [0, 2]),
                                                                                                  [-1, 0]),
            (("tipped", THREE, [0, 2]), [0, 0]), (("tipped", THREE, [0, 2]), [1]), (("tipped", THREE, [0, 2]), [True, 0]),
            (("tipped", RING, []), [1]),
            (("alike", square, square), [0, 2, 1, 3]), (("alike", square, square), [0, 1, 2]), (("alike", square, square),
                                                                                                [False, 1, 2, 3]),
            (("alike", square, square), [Ratio(0), 1, 2, 3]), (("alike", square, simplex(4)), [0, 1, 2, 3]),
            (("alike", square, simplex(3)), [0, 1, 2]),
            (("unlike", square, square), ((0, [2, 2]), (0, [2, 2]))), (("unlike", square, simplex(4)), ((4, []), (0, [2, 2]))),
            (("unlike", square, simplex(4)), [(0, [2, 2]), (4, [])]), (("unlike", square, simplex(4)), ([0, [2, 2]], (4, []))),
            (("unlike", square, simplex(4)), ((0, [2, 2]), (4, []), (4, []))), (("unlike", square, simplex(4)), ((0, [2, 2]),)),
            (("unlike", square, simplex(4)), ((False, [2, 2]), (4, []))), (("unlike", square, simplex(4)),
                                                                           ((0, [2, Ratio(2)]), (4, []))),
            (("unlike", square, simplex(4)), ((0, [2, 3]), (4, []))), (("unlike", square, simplex(4)), ((0, [2, 2]), (5, []))),
            (("unlike", square, simplex(4)),
                                                                       ((0, [2, 2]), (4, None))),
            (("unlike", square, simplex(4)), "ab"), (("unlike", square, simplex(4)), ((0, {2: 2}), (4, []))),
            (("simplicial", square), found[1:]), (("simplicial", square), found + found[:1]), (("simplicial", square),
                                                                                               found + [[0]]),
            (("simplicial", square), [lot[::-1] for lot in found]), (("simplicial", square), [[False, 1]] + found[1:]),
            (("simplicial", square), [[0, Ratio(1)]] + found[1:]), (("simplicial", square), [{0, 1}] + found[1:]),
            (("simplicial", square), found[1:] + [[0, 2]]),
            (("simplicial", tent), facets(tent)), (("simplicial", tent), facets(tent)[1:]), (("simplicial", square),
                                                                                             {0: found}),
            (("simplicial", square), []), (("simplicial", square), [0, 1]), (("folded", tent), [[0, 1, 2, 3]]),
            (("folded", tent), [0, 1, 4]),
            (("folded", tent), [3, 2, 1, 0]), (("folded", tent), [0, 1, 2]), (("folded", tent), [0, 1, 2, 3, 4]),
            (("folded", tent), [False, 1, 2, 3]),
            (("folded", tent), [0, Ratio(1), 2, 3]), (("folded", tent), {0, 1, 2, 3}), (("folded", tent), []),
            (("folded", simple), [0, 2, 4]),
            (("folded", simple), [0, 1, 2, 3]), (("folded", Body(PENTAGON)), [0, 1]),
        ]
        for claim, paper in no:
            self.assertIs(is_paper_of(claim, paper), False, (claim, paper))

    def test_values_of_all_kinds(self):
        claims = [("corner", SOME, 0), ("inner", SOME, 3), ("face", Body(SQUARE), [0, 1]), ("open", Body(SQUARE), [0, 2]),
                  ("balanced", RING, [0, 1]),
                  ("tipped", RING, [0]), ("alike", Body(SQUARE), Body(SQUARE)), ("unlike", Body(SQUARE), simplex(4)),
                  ("simplicial", Body(BIPYRAMID)),
                  ("folded", Body(over(SQUARE)))]
        for claim in claims:
            values = [value for value in any_kinds() if not (claim[0] == "tipped" and value == [1])]
            self.check_asked(is_paper_of, {"claim": claim}, "value", False, values + [Body(SQUARE), claim, [claim],
                                                                                      word_of(Body(SQUARE))])
            self.assertIs(is_paper_of(claim, paper_of(claim)), True)

    def test_it_hangs_on_the_value_and_the_claims_parts_alone(self):
        papers = [(claim, paper_of(claim)) for claim in some_claims()[::7] if is_true(claim)]
        chance = random.Random(97)
        for _ in range(600):
            (claim, _), (_, paper) = chance.choice(papers), chance.choice(papers)
            self.assertIs(is_paper_of(claim, paper), is_judged(claim, paper), (claim, paper))

    def test_papers_of_some(self):
        self.assertEqual(paper_of(("unlike", Body(SQUARE), simplex(4))), ((0, [2, 2]), (4, [])))
        self.assertEqual(sorted(paper_of(("simplicial", Body(SQUARE)))), facets(Body(SQUARE)))
        self.assertEqual(paper_of(("folded", Body(over(SQUARE)))), [0, 1, 2, 3])
        self.assertEqual([paper_of(("balanced", RING, [])), paper_of(("tipped", RING, []))], [[], None])
        self.assertIsNone(paper_of(("folded", Body(curved(7, 4)))))


def otherwise(claim):
    """The claim with numbers of the other kind, and with tuples for lists."""
    word, *parts = claim
    if word in ("corner", "inner"):
        return word, told_otherwise(parts[0]), parts[1]
    if word in ("face", "open"):
        return word, parts[0], tuple(parts[1])
    return (word, told_otherwise(parts[0]), tuple(parts[1])) if word in ("balanced", "tipped") else claim


def digits(paper):
    return max([longest(part) for part in paper], default=0)


class WrongCallsTest(unittest.TestCase, Wrong):
    def test_no_claims(self):
        bad = wrong_claims() + kinds()
        for function in (is_true, contrary, paper_of):
            self.check_wrong(function, {}, "claim", InvalidClaim, bad)
        self.check_wrong(is_paper_of, {"claim": None, "value": None}, "claim", InvalidClaim, bad)
        self.assertIs(type(raised(is_paper_of, ("face", Body(SQUARE), [4]), [0])), InvalidClaim)
