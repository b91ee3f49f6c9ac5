"""Promises [2], [94] to [97]: papers kept with labels, lines, copies, desks made again, trials."""
import unittest

from fewcorners.bodies import Body
from fewcorners.claims import contrary, paper_of
from fewcorners.desk import Desk, Trial, tried
from fewcorners.errors import (CommandFailed, InvalidLines, InvalidMany, InvalidPaper, NameTaken, TooMany, UnknownLabel,
                               UnknownName)
from fewcorners.ratios import Ratio
from tests.desks import SQUARE_LINES, THINGS, desk_with, seen, undone
from tests.helpers import Wrong, any_kinds, kinds, raised

# Of each word a label's claim on the things of the tests, true and false ones.
NOTED = [
    "claim a corner p 3", "claim b inner p 3", "claim c corner q 3", "claim d inner q 3", "claim e face b 01",
    "claim f open b 01", "claim g face b 03",
    "claim h open b 03", "claim i balanced w 02", "claim j tipped w 02", "claim k balanced w 01", "claim l tipped w 01",
]
PAIRED = ["claim a alike b b", "claim b unlike b b", "claim c alike b s", "claim d unlike b s", "claim e simplicial b",
          "claim f folded b",
          "claim g simplicial t", "claim h folded t"]
FORM = ([-1, -1], 2)
MIXTURE = [Ratio(1, 2), Ratio(1, 4), Ratio(1, 4), 0]


def corner_desk():
    """Points whose last one is a corner, with the claim of that; it is no corner any more once it is moved to 1/4, 1/4."""
    return desk_with(*SQUARE_LINES, "claim k corner p 3")


def inwards(desk):
    desk.do_all("amount p 3 0 1/4", "amount p 3 1 1/4")


class AttachTest(unittest.TestCase, Wrong):
    def test_papers_of_claims_and_of_their_contraries(self):
        for noted in (NOTED, PAIRED):
            desk = desk_with(*THINGS, *noted)
            before = seen(desk)
            for label in desk.labels:
                claim = desk.claim_of(label)
                paper = paper_of(claim)
                paper = paper_of(contrary(claim)) if paper is None else paper
                self.assertIs(desk.fits(label), False)
                self.assertIsNone(raised(desk.attach, label, paper))
                self.assertIs(desk.fits(label=label), True)
            self.assertEqual(seen(desk), dict(before, fits={label: True for label in desk.labels}))

    def test_no_papers(self):
        desk = desk_with(*THINGS, *NOTED)
        before = seen(desk)
        for label in desk.labels:
            # Any number above 0 is a tipping of spokes on one side of nought.
            for value in [value for value in kinds() if not (label in "kl" and value == [1])] + [FORM[0], desk, [FORM],
                                                                                                 [FORM[0], FORM[1]]]:
                for error in (raised(desk.attach, label, value), raised(desk.attach, paper=value, label=label)):
                    self.assertIs(type(error), InvalidPaper, (label, value))
                    self.assertIs(error.value, value)
        self.assertEqual(seen(desk), before)
        self.assertIs(type(raised(desk.attach, "a", MIXTURE)), InvalidPaper)
        self.assertIs(type(raised(desk.attach, "c", FORM)), InvalidPaper)

    def test_one_that_is_refused_leaves_what_was_kept(self):
        desk = corner_desk()
        desk.attach("k", FORM)
        for value in any_kinds() + [MIXTURE, (FORM[0], 3)]:
            self.assertIs(type(raised(desk.attach, "k", value)), InvalidPaper)
        self.assertIs(desk.fits("k"), True)

    def test_no_paper_while_the_state_is_gone(self):
        desk = corner_desk()
        desk.do("drop p")
        self.assertIs(type(raised(desk.attach, "k", FORM)), InvalidPaper)
        desk.do("undo")
        desk.attach("k", FORM)
        desk.do("drop p")
        self.assertEqual([desk.fits("k"), type(raised(desk.attach, "k", FORM)), desk.do("undo"), desk.fits("k")],
                         [False, InvalidPaper, "drop p", True])

    def test_unknown_labels_ahead_of_papers(self):
        desk = corner_desk()
        for label in ("p", "b", "kk", "", None, 0, ["k"]):
            for call in (lambda label=label: desk.attach(label, FORM), lambda label=label: desk.attach(label, None),
                         lambda label=label: desk.fits(label)):
                error = raised(call)
                self.assertIs(type(error), UnknownLabel)
                self.assertIs(error.value, label)

    def test_it_is_no_deed(self):
        desk = corner_desk()
        desk.do_all("simplex s 3", "undo")
        before = (len(desk), desk.lines(), undone(desk), desk.do("states"))
        desk.attach("k", FORM)
        self.assertEqual((len(desk), desk.lines(), undone(desk), desk.do("states")), before)
        self.assertEqual([desk.do("redo"), desk.do("undo"), desk.do("undo"), desk.do("redo"), desk.fits("k")],
                         ["simplex s 3", "simplex s 3", "claim k corner p 3", "claim k corner p 3", True])

    def test_what_was_passed_is_changed_and_the_paper_is_not(self):
        desk = corner_desk()
        normal = [-1, -1]
        desk.attach("k", (normal, 2))
        normal[0] = 7
        self.assertIs(desk.fits("k"), True)
        desk = desk_with(*THINGS, "claim g simplicial b", "claim u unlike b s")
        found, numbers = [[0, 1], [0, 2], [1, 3], [2, 3]], [2, 2]
        desk.attach("g", found)
        desk.attach("u", ((0, numbers), (4, [])))
        found[0].clear()
        numbers.append(3)
        self.assertEqual([desk.fits("g"), desk.fits("u")], [True, True])


class FitsTest(unittest.TestCase, Wrong):
    def test_as_things_are_now(self):
        desk = corner_desk()
        desk.attach("k", FORM)
        self.assertEqual([desk.fits("k"), desk.do("amount p 2 0 2"), desk.fits("k")], [True, "-", False])
        self.assertEqual([desk.do("state k"), desk.do("undo"), desk.fits("k")], ["true", "amount p 2 0 2", True])
        inwards(desk)
        self.assertEqual([desk.do("state k"), desk.fits("k")], ["false", False])
        desk.attach("k", [Ratio(1, 2), Ratio(1, 4), Ratio(1, 4), Ratio(0)])
        self.assertIs(desk.fits("k"), True)
        desk.do_all("undo", "undo")
        self.assertIs(desk.fits("k"), False)
        desk.do_all("redo", "redo")
        self.assertIs(desk.fits("k"), True)

    def test_a_paper_of_the_contrary_is_one_of_that_alone(self):
        """With the corner inside, and outside again on the other side, the kept one is judged for what it was kept for."""
        desk = desk_with("wheel w 1 1 -1 -1", "claim k tipped w 02")
        desk.attach("k", [2, 2])
        self.assertEqual([desk.do("state k"), desk.fits("k")], ["false", True])
        desk.do_all("drop w", "wheel w 2 1 -2 -1")
        self.assertIs(desk.fits("k"), True)
        desk.do_all("drop w", "wheel w 1 1 1 -1 -1 -1")
        self.assertEqual([desk.do("state k"), desk.fits("k")], ["true", False])

    def test_another_one_takes_its_place(self):
        desk = corner_desk()
        desk.attach("k", FORM)
        desk.attach("k", ([-2, -1], 3))
        self.assertIs(desk.fits("k"), True)
        desk.do("amount p 1 0 5/4")
        # Over the second form the moved point has a height above 0, over the first one, too, but not at 9/4.
        self.assertIs(desk.fits("k"), True)
        desk.do("amount p 2 0 -7")
        self.assertIs(desk.fits("k"), True)
        desk.do("amount p 2 0 3/2")
        self.assertIs(desk.fits("k"), False)

    def test_a_label_that_is_forgotten_and_noted_again(self):
        desk = corner_desk()
        desk.attach("k", FORM)
        desk.do("forget k")
        self.assertIs(type(raised(desk.fits, "k")), UnknownLabel)
        desk.do("claim k corner p 3")
        self.assertIs(desk.fits("k"), True)
        desk.do_all("forget k", "claim k inner p 3")
        self.assertIs(desk.fits("k"), False)
        desk.do_all("forget k", "claim k corner p 0")
        self.assertIs(desk.fits("k"), False)
        desk.do_all("forget k", "corners x b", "claim k corner x 3")
        self.assertIs(desk.fits("k"), False)
        desk.do_all("forget k", "claim k corner p 3")
        self.assertIs(desk.fits("k"), True)
        desk.do_all("undo", "undo")
        self.assertEqual([desk.do("claimed k"), desk.fits("k")], ["corner x 3", False])

    def test_with_other_words_even_if_it_would_be_a_paper_of_these(self):
        desk = desk_with(*SQUARE_LINES, "corners x b", "claim k face b 01", "claim c corner p 3")
        desk.attach("k", ([0, 1], 0))
        desk.attach("c", FORM)
        desk.do_all("forget k", "claim k open b 01", "forget c", "claim c corner x 3")
        self.assertEqual([desk.fits("k"), desk.fits("c"), desk.do("claimed k")], [False, False, "open b 01"])
        desk.attach("k", ([0, 1], 0))
        self.assertEqual([desk.fits("k"), desk.fits("c")], [True, False])
        desk.do_all("forget k", "claim k face b 01")
        self.assertIs(desk.fits("k"), False)

    def test_whatever_deeds_come_or_are_taken_back(self):
        desk = corner_desk()
        desk.attach("k", FORM)
        desk.do_all("undo", "undo", "undo", "points p 0,0 1,0 0,1 1,1", "claim k corner p 3")
        self.assertIs(desk.fits("k"), True)
        desk.do_all("drop p", "points p 0,0 2,0 0,2 1,1", "state k")
        self.assertEqual([desk.do("state k"), desk.fits("k"), desk.do("drop p"), desk.fits("k")], ["false", False, "k gone",
                                                                                                   False])

    def test_each_label_has_its_own(self):
        desk = desk_with(*SQUARE_LINES, "claim k corner p 3", "claim l corner p 3")
        desk.attach("l", FORM)
        self.assertEqual([desk.fits("k"), desk.fits("l")], [False, True])


class LinesTest(unittest.TestCase, Wrong):
    def test_lines(self):
        desk = desk_with(*THINGS, *NOTED, "names", "undo", "size b")
        self.assertEqual([desk.lines(), type(desk.lines())], [THINGS + NOTED[:-1], list])
        self.assertEqual([Desk().lines(), desk_with("simplex s 3", "undo").lines()], [[], []])
        self.check_new(desk.lines)

    def test_again(self):
        desk = desk_with(*THINGS, *NOTED, "amount p 3 0 1/4", "drop w", "forget a")
        for lines in (desk.lines(), tuple(desk.lines())):
            for other in (Desk.again(lines), Desk.again(lines=lines)):
                self.assertEqual([type(other), seen(other)], [Desk, seen(desk)])
        self.assertEqual([len(Desk.again([])), len(Desk.again(())), Desk.again(["simplex s 3"])["s"].many], [0, 0, 3])
        lines = desk.lines()
        other = Desk.again(lines)
        lines.clear()
        other.do("undo")
        self.assertEqual([len(desk), len(other)], [len(THINGS) + len(NOTED) + 3, len(THINGS) + len(NOTED) + 2])

    def test_values_that_are_no_lists(self):
        for value in [value for value in any_kinds() if not isinstance(value, (list, tuple))] + ["simplex s 3",
                                                                                                 {"simplex s 3": 0},
                                                                                                 {"simplex s 3"}]:
            for error in (raised(Desk.again, value), raised(Desk.again, lines=value)):
                self.assertEqual([type(error), error.position], [InvalidLines, None])

    def test_lines_that_are_no_deeds(self):
        good = ["simplex s 3", "drop s"]
        for value in any_kinds() + ["undo", "names", "size s", "simplex s", "simplex s 3 ", "", ["simplex s 3"], "redo",
                                    "states"]:
            for at in range(3):
                error = raised(Desk.again, good[:at] + [value] + good[at:])
                self.assertEqual([type(error), error.position, type(error.position)], [InvalidLines, at, int])
        # The first that is no deed decides, ahead of deeds that fail.
        error = raised(Desk.again, ("simplex s 1", "simplex s 3", "undo", None))
        self.assertEqual([type(error), error.position], [InvalidLines, 2])

    def test_deeds_that_fail(self):
        error = raised(Desk.again, ["simplex s 3", "simplex s 3"])
        self.assertEqual([type(error), error.position, type(error.__cause__)], [CommandFailed, 1, NameTaken])
        error = raised(Desk.again, ("simplex s 1", "drop x"))
        self.assertEqual([type(error), error.position, type(error.__cause__)], [CommandFailed, 0, InvalidMany])
        error = raised(Desk.again, [f"simplex s{at} 3" for at in range(13)])
        self.assertEqual([error.position, type(error.__cause__), error.__cause__.what], [12, TooMany, "names"])


class CopyTest(unittest.TestCase, Wrong):
    def test_a_copy_goes_on_by_itself(self):
        desk = corner_desk()
        desk.attach("k", FORM)
        desk.do_all("simplex s 3", "simplex t 3", "undo")
        other = desk.copy()
        before = seen(desk)
        self.assertEqual([type(other), other is desk, seen(other), undone(other), other.fits("k")], [Desk, False, before,
                                                                                                     ["simplex t 3"], True])
        other.do_all("redo", "drop p", "forget k", "undo", "undo", "undo", "undo", "undo")
        self.assertEqual(seen(desk), before)
        again = seen(other)
        desk.do_all("redo", "amount p 3 0 0", "drop p", "claim l folded b")
        self.assertEqual(seen(other), again)
        third = desk.copy()
        third.do("points p 0,0 1,0 0,1 1,1")
        third.attach("l", [[0, 1], [0, 2], [1, 3], [2, 3]])
        self.assertEqual([third.fits("l"), desk.fits("l"), third.fits("k"), desk.fits("k")], [True, False, True, False])

    def test_papers_of_a_copy(self):
        desk = corner_desk()
        other = desk.copy()
        other.attach("k", FORM)
        self.assertEqual([desk.fits("k"), other.fits("k"), other.copy().fits("k")], [False, True, True])


class TrialTest(unittest.TestCase, Wrong):
    def ready(self):
        desk = corner_desk()
        desk.attach("k", FORM)
        desk.do_all("simplex s 3", "undo")
        return desk

    def stir(self, desk):
        """All that can be changed of a desk is changed."""
        inwards(desk)
        desk.attach("k", MIXTURE)
        desk.do_all("drop b", "simplex b 3", "forget k", "claim l alike b b", "undo")

    def test_behind_the_block_all_is_as_it_was(self):
        desk = self.ready()
        before = seen(desk)
        with Trial(desk) as held:
            self.assertIs(held, desk)
            self.stir(held)
            self.assertNotEqual(seen(desk), before)
        self.assertEqual([seen(desk), undone(desk), desk.fits("k")], [before, ["simplex s 3"], True])
        self.assertEqual([desk.do("redo"), desk.do("undo"), desk.do("state k")], ["simplex s 3", "simplex s 3", "true"])

    def test_an_error_that_leaves_the_block_goes_on(self):
        desk = self.ready()
        before = seen(desk)
        for error in (KeyError("x"), UnknownName("x"), ZeroDivisionError(), KeyboardInterrupt()):
            with self.assertRaises(type(error)) as caught:
                with Trial(desk) as held:
                    self.stir(held)
                    raise error
            self.assertIs(caught.exception, error)
            self.assertEqual(seen(desk), before)
        with self.assertRaises(UnknownName):
            with Trial(desk=desk) as held:
                held.do_all("drop p", "drop b")
                held.do("drop p")
        self.assertEqual(seen(desk), before)

    def test_one_block_behind_another_and_within_another(self):
        desk = self.ready()
        trial = Trial(desk)
        before = seen(desk)
        with trial:
            desk.do("drop p")
        self.assertEqual(seen(desk), before)
        desk.do("drop p")
        after = seen(desk)
        with trial as held:
            held.do("drop b")
            inner = seen(desk)
            with Trial(desk) as within:
                self.stir_again(within)
            self.assertEqual(seen(desk), inner)
        self.assertEqual(seen(desk), after)

    def stir_again(self, desk):
        desk.do_all("undo", "undo", "simplex x 4")

    def test_what_was_there_when_the_block_began_counts(self):
        desk = Desk()
        trial = Trial(desk)
        desk.do("simplex s 3")
        with trial:
            desk.do("drop s")
        self.assertEqual([desk.names, len(desk)], [["s"], 1])

    def test_tried(self):
        desk = self.ready()
        before = seen(desk)
        self.assertEqual(tried(desk, lambda held: held.do_all("drop p", "names", "state k")), ["k gone", "b", "gone"])
        self.assertEqual(seen(desk), before)
        self.assertIs(tried(action=lambda held: held, desk=desk), desk)
        found = []
        self.assertIsNone(tried(desk, lambda held: found.append(self.stir(held))))
        self.assertEqual([seen(desk), len(found)], [before, 1])
        self.assertEqual(tried(desk, lambda held: tried(held, lambda inner: inner.do("drop p"))), "k gone")
        for error in (raised(tried, desk, lambda held: held.do_all("drop p", "drop p")),
                      raised(tried, desk, lambda held: held.do("drop b") and held["b"])):
            self.assertIn(type(error), (CommandFailed, UnknownName))
            self.assertEqual(seen(desk), before)

    def test_a_copy_made_in_the_block_goes_on(self):
        desk = self.ready()
        with Trial(desk) as held:
            held.do("drop p")
            other = held.copy()
        self.assertEqual([desk.names, other.names, Body(desk["p"]).many], [["b", "p"], ["b"], 4])
