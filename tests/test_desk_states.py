"""Promises [2], [95] to [98]: states and how deeds change them, undo and redo, limits, errors and their sequence."""
import random
import unittest

from fewcorners import errors
from fewcorners.bodies import Body, simplex
from fewcorners.claims import is_claim, is_true
from fewcorners.desk import Desk
from fewcorners.errors import (CommandFailed, Flattened, InvalidClaim, InvalidCommand, InvalidMany, InvalidNumbers,
                               InvalidPlace,
                               InvalidPlaces, InvalidPoints, InvalidTable, InvalidWheel, InvalidWord, LabelTaken, NameTaken,
                               NotCorner, NotFace, NotFew, NothingToRedo, NothingToUndo, TooFew, TooMany, UnknownLabel,
                               UnknownName)
from fewcorners.ratios import Ratio
from tests.desks import SQUARE_LINES, THINGS, desk_with, ratios, seen, undone
from tests.helpers import Wrong, any_kinds, raised

KIND_WANTED = {"corner": "points", "inner": "points", "face": "body", "open": "body", "balanced": "wheel", "tipped": "wheel",
               "alike": "body",
               "unlike": "body", "simplicial": "body", "folded": "body"}


def kind_of(desk, name):
    """The kind of a kept thing, as `size` tells it: points and bodies have three counts."""
    if name not in desk:
        return None
    if isinstance(desk[name], Body):
        return "body"
    return "points" if len(desk.do("size " + name).split(" ")) == 3 else "wheel"


def claim_by_words(desk, label):
    """The claim of a label, made here of its words and of what is kept; None if it is gone."""
    word, *words = desk.do("claimed " + label).split(" ")
    parts = []
    for told in words:
        if told[0].isalpha():
            if kind_of(desk, told) != KIND_WANTED[word]:
                return None
            parts.append(desk[told])
        elif word in ("corner", "inner"):
            parts.append(int(told))
        else:
            parts.append([int(sign) for sign in told.replace("-", "")])
    claim = (word, *parts)
    return claim if is_claim(claim) else None


def states_of(desk):
    """By label the state, reckoned here."""
    claims = {label: claim_by_words(desk, label) for label in desk.labels}
    return {label: "gone" if claim is None else str(is_true(claim)).lower() for label, claim in claims.items()}


def changes(before, after):
    """The answer to a deed by the words of [97]."""
    return ", ".join(f"{label} {after[label]}" for label in sorted(after) if before.get(label) != after[label]) or "-"


class StatesTest(unittest.TestCase, Wrong):
    def test_by_deeds_that_go_and_come_again(self):
        desk = desk_with(*SQUARE_LINES, "claim k corner p 3", "claim b alike b b", "claim a inner p 3")
        told = desk.do_all("amount p 3 0 1/4", "amount p 3 1 1/4", "states", "drop p", "state k", "drop b", "states",
                           "points p 0 2 1", "simplex b 4",
                           "points q 0,0 1,0 0,1 1,1", "drop p", "body p q", "states", "drop p", "points p 0 1 2 3 5")
        self.assertEqual(told, ["-", "a true, k false", "a true, b true, k false", "a gone, k gone", "gone", "b gone",
                                "a gone, b gone, k gone", "-",
                                "b true", "-", "-", "-", "a gone, b true, k gone", "-", "-"])

    def test_gone_for_each_reason(self):
        desk = desk_with("points p 0 1 2", "claim k corner p 2")
        for line in ("points p 0 1", "points p 0 1 2 3 4", "simplex p 4", "wheel p 1 1 -1 -1"):
            self.assertEqual([desk.do("drop p") in ("k gone", "-"), desk.do(line), desk.do("state k"), desk.claim_of("k")],
                             [True, "-", "gone", None])
        self.assertEqual([desk.do("drop p"), desk.do("points p 0 1 2"), desk.do("drop p"), desk.do("points p 0 2 1")],
                         ["-", "k true", "k gone", "k false"])
        desk = desk_with("simplex b 4", "claim f face b 03", "drop b", "simplex b 3")
        self.assertEqual([desk.do("state f"), desk.do("drop b"), desk.do("simplex b 5"), desk.claim_of("f")],
                         ["gone", "-", "f true", ("face", simplex(5), [0, 3])])
        desk = desk_with("wheel w 1 1 -1 -1 0", "claim w balanced w 4", "drop w", "wheel w 1 1 -1 -1")
        self.assertEqual([desk.do("state w"), desk.do("drop w"), desk.do("wheel w 0 1 1 -1 -1"), desk.do("drop w")],
                         ["gone", "-", "w false", "w gone"])

    def test_a_claim_that_is_noted_counts_as_changed_and_one_that_is_forgotten_does_not(self):
        desk = desk_with(*SQUARE_LINES)
        self.assertEqual(desk.do_all("claim k corner p 0", "claim l corner p 0", "forget k", "claim k corner p 0", "forget l",
                                     "states"),
                         ["k true", "l true", "-", "k true", "-", "k true"])

    def test_amounts_that_change_nothing_but_worth(self):
        desk = desk_with(*SQUARE_LINES, "claim k corner p 3")
        self.assertEqual([desk.do("amount p 3 0 1"), desk.do("amount p 3 0 5"), desk.do("amount p 3 0 -5"), len(desk)],
                         ["-", "-", "-", 6])
        self.assertEqual(desk["p"][3], [Ratio(-5), Ratio(1)])

    def test_points_that_are_not_few_any_more(self):
        desk = desk_with("points p 0,0 1,0 0,1 1,1 2,3", "claim k corner p 3")
        self.assertEqual(desk.do_all("amount p 1 0 0", "amount p 3 0 0", "amount p 4 0 0", "state k", "undo", "state k"),
                         ["k true", "k false", "k gone", "gone", "amount p 4 0 0", "false"])


class UndoTest(unittest.TestCase, Wrong):
    def test_back_and_forth_through_all_deeds(self):
        lines = THINGS + ["claim k corner p 3", "amount p 3 0 1/4", "claim m face b 01", "drop b", "forget k",
                          "letters z w -1", "drop p", "claim n folded t"]
        desk = Desk()
        times = [seen(desk)]
        for line in lines:
            desk.do(line)
            times.append(seen(desk))
        for at in range(len(lines), 0, -1):
            self.assertEqual([desk.do("undo"), len(desk), desk.lines()], [lines[at - 1], at - 1, lines[:at - 1]])
            self.assertEqual(dict(seen(desk), undone=[]), times[at - 1])
            self.assertEqual(undone(desk), lines[at - 1:])
        self.assertIs(type(raised(desk.do, "undo")), NothingToUndo)
        for at, line in enumerate(lines):
            self.assertEqual([desk.do("redo"), len(desk)], [line, at + 1])
            self.assertEqual(dict(seen(desk), undone=[]), times[at + 1])
        self.assertIs(type(raised(desk.do, "redo")), NothingToRedo)

    def test_a_deed_in_between_ends_what_can_be_done_again(self):
        desk = desk_with(*SQUARE_LINES, "undo")
        self.assertEqual([desk.do("simplex s 3"), type(raised(desk.do, "redo")), desk.lines()],
                         ["-", NothingToRedo, ["points p 0,0 1,0 0,1 1,1", "simplex s 3"]])
        desk = desk_with(*SQUARE_LINES, "undo", "undo", "redo", "redo", "undo")
        self.assertEqual([desk.do("redo"), desk.names, type(raised(desk.do, "redo"))], ["body b p", ["b", "p"], NothingToRedo])

    def test_refused_commands_and_questions_in_between_do_not(self):
        desk = desk_with(*SQUARE_LINES, "claim k corner p 3", "undo", "undo")
        for command in ("points p 0 1", "body b x", "nothing", "names", "size p", "forget k", "state k", None, "points q 0",
                        "states"):
            raised(desk.do, command)
        raised(desk.do_all, "simplex s 3", "simplex s 3")
        desk.attempt("simplex s 3", "drop p")
        self.assertEqual([desk.do("redo"), desk.do("redo"), desk.labels], ["body b p", "claim k corner p 3", ["k"]])

    def test_nothing_to_undo_and_to_redo(self):
        desk = Desk()
        for command, error in (("undo", NothingToUndo), ("redo", NothingToRedo)):
            self.assertIs(type(raised(desk.do, command)), error)
        desk.do("simplex s 3")
        self.assertIs(type(raised(desk.do, "redo")), NothingToRedo)
        self.assertEqual([desk.do("undo"), type(raised(desk.do, "undo")), desk.do("redo"), desk.names],
                         ["simplex s 3", NothingToUndo, "simplex s 3", ["s"]])

    def test_deeds_that_change_nothing_are_taken_back_too(self):
        desk = desk_with("points p 0 1", "amount p 0 0 0")
        self.assertEqual([len(desk), desk.do("undo"), len(desk), desk.names], [2, "amount p 0 0 0", 1, ["p"]])


class ByChanceTest(unittest.TestCase, Wrong):
    """Deeds and others by chance: states, answers, and what can be done again are reckoned beside the desk."""

    def commands(self, chance):
        name, other, label = chance.choice("abc"), chance.choice("abc"), chance.choice("klm")
        place, lot = chance.randrange(5), chance.choice(["-", "0", "01", "03", "123", "0123"])
        word = chance.choice(sorted(KIND_WANTED))
        parts = {"corner": f"{name} {place}", "inner": f"{name} {place}", "alike": f"{name} {other}",
                 "unlike": f"{name} {other}", "simplicial": name,
                 "folded": name}.get(word, f"{name} {lot}")
        return chance.choice([
            f"points {name} 0,0 1,0 0,1 1,1", f"points {name} 0,0 4,0 0,4 1,1", f"wheel {name} 1 1 -1 -1 0",
            f"body {name} {other}", f"simplex {name} 4",
            f"pyramid {name} {other}", f"spokes {name} {other}", f"corners {name} {other}", f"spun {name} {other}",
            f"drop {name}", f"drop {other}",
            f"amount {name} 3 0 {chance.choice(['1', '1/4', '-2'])}", f"amount {name} 3 1 {chance.choice(['1', '1/4'])}",
            f"forget {label}",
            f"claim {label} {word} {parts}", f"claim {label} {word} {parts}", f"claim {label} {word} {parts}", "undo", "undo",
            "redo", "redo", "states", "names",
        ])

    def test_walks(self):
        seen_answers = {}
        for seed in range(30):
            chance = random.Random(seed)
            desk, done, taken = Desk(), [], []
            for _ in range(90):
                command = self.commands(chance)
                before, told = states_of(desk), seen(desk)
                error = raised(desk.copy().do, command)
                if error is not None:
                    self.assertIs(type(raised(desk.do, command)), type(error))
                    self.assertEqual(seen(desk), told)
                    continue
                answer = desk.do(command)
                if command == "undo":
                    taken.append(done.pop())
                    self.assertEqual(answer, taken[-1])
                elif command == "redo":
                    done.append(taken.pop())
                    self.assertEqual(answer, done[-1])
                elif command not in ("states", "names"):
                    done, taken = done + [command], []
                    self.assertEqual(answer, changes(before, states_of(desk)))
                    seen_answers[answer.split(" ")[-1]] = seen_answers.get(answer.split(" ")[-1], 0) + 1
                self.assertEqual([desk.lines(), len(desk), undone(desk)], [done, len(done), taken[::-1]])
                self.assertEqual(desk.do("states"), ", ".join(f"{label} {state}" for label,
                                                              state in sorted(states_of(desk).items())) or "-")
                self.assertEqual([desk.claim_of(label) for label in desk.labels],
                                 [claim_by_words(desk, label) for label in desk.labels])
            self.assertEqual(dict(seen(Desk.again(desk.lines())), undone=[]), dict(seen(desk), undone=[]))
        self.assertGreaterEqual(min(seen_answers.get(word, 0) for word in ("-", "true", "false", "gone")), 10)


class LimitsTest(unittest.TestCase, Wrong):
    def check_too_many(self, desk, command, what, limit):
        before = seen(desk)
        error = raised(desk.do, command)
        self.assertEqual([type(error), error.what, error.limit], [TooMany, what, limit])
        self.assertEqual(seen(desk), before)

    def test_names(self):
        desk = desk_with("points p 0,0 1,0 0,1 1,1", *[f"simplex s{at} 3" for at in range(11)])
        self.assertEqual(len(desk.names), 12)
        for command in ("simplex x 3", "points x 0 1", "wheel x 1 1 -1 -1", "body x p", "pyramid x s0", "within x s0 01",
                        "worded x 0 2 2", "figure x s1 0"):
            self.check_too_many(desk, command, "names", 12)
        self.assertEqual([desk.do("amount p 0 0 0"), desk.do("drop s3"), desk.do("simplex x 3"), desk.do("undo"),
                          len(desk.names)],
                         ["-", "-", "-", "simplex x 3", 11])

    def test_labels(self):
        desk = desk_with(*SQUARE_LINES, *[f"claim k{at} corner p {at % 4}" for at in range(12)])
        self.assertEqual(len(desk.labels), 12)
        for command in ("claim x corner p 0", "claim x face b 01", "claim x alike b b", "claim x folded b"):
            self.check_too_many(desk, command, "labels", 12)
        self.assertEqual([desk.do("forget k3"), desk.do("claim x corner p 0"), len(desk.labels), desk.do("simplex y 3")],
                         ["-", "x true", 12, "-"])

    def test_deeds(self):
        desk = desk_with("points p 0,0 1,0 0,1 1,1", "body b p", "claim k corner p 3",
                         *[f"amount p 0 0 {-at}" for at in range(297)])
        self.assertEqual(len(desk), 300)
        for command in ("amount p 0 0 5", "drop p", "simplex s 3", "claim l corner p 3", "forget k", "corners c b"):
            self.check_too_many(desk, command, "deeds", 300)
        self.assertEqual([desk.do("state k"), desk.do("undo"), desk.do("redo"), len(desk)], ["true", "amount p 0 0 -296",
                                                                                             "amount p 0 0 -296", 300])
        self.assertEqual([desk.do("undo"), desk.do("drop b"), len(desk), desk.do("names")], ["amount p 0 0 -296", "-", 300,
                                                                                             "p"])
        error = raised(desk.do_all, "undo", "simplex x 3", "simplex y 3")
        self.assertEqual([type(error), error.position, type(error.__cause__), error.__cause__.what, len(desk)],
                         [CommandFailed, 2, TooMany, "deeds", 300])
        self.assertEqual([len(Desk.again(desk.lines())), raised(Desk.again, desk.lines() + ["simplex y 3"]).position],
                         [300, 300])

    def test_names_ahead_of_deeds_and_labels_ahead_of_deeds(self):
        desk = desk_with("points p 0,0 1,0 0,1 1,1", *[f"simplex s{at} 3" for at in range(11)],
                         *[f"claim k{at} corner p 0" for at in range(12)],
                         *[f"amount p 0 0 {-at}" for at in range(276)])
        self.assertEqual(len(desk), 300)
        self.check_too_many(desk, "simplex x 3", "names", 12)
        self.check_too_many(desk, "claim x corner p 0", "labels", 12)
        self.check_too_many(desk, "amount p 0 0 5", "deeds", 300)
        for command, error in (("simplex x 1", InvalidMany), ("claim x corner p 4", InvalidClaim), ("simplex p 3", NameTaken),
                               ("claim k3 corner p 0", LabelTaken),
                               ("drop x", UnknownName), ("forget x", UnknownLabel), ("amount p 4 0 0", InvalidPlace)):
            self.assertIs(type(raised(desk.do, command)), error, command)


class ErrorsTest(unittest.TestCase, Wrong):
    def check_error(self, desk, command, error, **attributes):
        before = seen(desk)
        for call in (desk.do, desk):
            for told in (raised(call, command), raised(call, command=command)):
                self.assertEqual([type(told), vars(told)], [error, attributes], command)
        self.assertEqual(seen(desk), before)

    def test_no_commands(self):
        desk = desk_with(*THINGS)
        bad = any_kinds() + ["points", "body b", "names ", " names", "size  b", "claim k holds b 0", ["names"], "", "help",
                             "amount p 0 0 1/1", "show P"]
        for value in bad:
            for told in (raised(desk.do, value), raised(desk, value), raised(desk.do, command=value)):
                self.assertIs(type(told), InvalidCommand)
                self.assertIs(told.value, value)

    def test_names_and_labels_that_are_taken(self):
        desk = desk_with(*THINGS, "claim k corner p 3")
        for command in ("points b 0 1", "wheel p 1 1 -1 -1", "body w p", "corners p b", "spokes b b", "simplex s 3",
                        "pyramid b b", "joined t b b",
                        "moved b b 0 1", "within b b 01", "figure b b 0", "spun w w", "worded v 0 2 2", "letters w w 2"):
            self.check_error(desk, command, NameTaken, name=command.split(" ")[1])
        for command in ("claim k corner p 3", "claim k inner p 0", "claim k face b 01", "claim k folded t"):
            self.check_error(desk, command, LabelTaken, label="k")

    def test_taken_ahead_of_unknown_and_of_what_is_wrong(self):
        desk = desk_with(*THINGS, "claim k corner p 3")
        self.check_error(desk, "points b 0", NameTaken, name="b")
        self.check_error(desk, "body b nothing", NameTaken, name="b")
        self.check_error(desk, "simplex b 1", NameTaken, name="b")
        self.check_error(desk, "claim k corner nothing 3", LabelTaken, label="k")
        self.check_error(desk, "claim k corner p 9", LabelTaken, label="k")

    def test_unknown_names_and_other_kinds(self):
        desk = desk_with(*THINGS, "claim k corner p 3")
        wanted = {
            "body x b": "b", "body x w": "w", "body x no": "no", "corners x p": "p", "spokes x w": "w", "pyramid x no": "no",
            "pyramid x p": "p",
            "joined x p b": "p", "joined x b p": "p", "joined x no p": "no", "joined x b no": "no", "moved x w 0 1": "w",
            "within x p 0": "p",
            "figure x v 0": "v", "spun x b": "b", "spun x p": "p", "letters x b 1": "b", "amount b 0 0 1": "b",
            "amount w 0 0 1": "w", "drop no": "no",
            "drop k": "k", "show no": "no", "size no": "no", "sums b": "b", "sums w": "w", "word p": "p", "word no": "no",
            "numbers p": "p", "maps w": "w",
            "facets p": "p", "edges v": "v", "twins no": "no", "faces p 1": "p", "holds w 0": "w", "peaks b": "b",
            "least p": "p", "same no p": "no",
            "same p no": "no", "same p b": "b", "same b w": "w", "same w p": "p", "same no no2": "no",
            "claim x corner b 0": "b", "claim x inner w 0": "w",
            "claim x face p 0": "p", "claim x open no 0": "no", "claim x balanced b 0": "b", "claim x tipped p -": "p",
            "claim x alike b p": "p",
            "claim x alike no p": "no", "claim x unlike p b": "p", "claim x simplicial w": "w", "claim x folded no": "no",
            "claim x face k 0": "k",
        }
        for command, name in wanted.items():
            self.check_error(desk, command, UnknownName, value=name)

    def test_unknown_ahead_of_what_is_wrong(self):
        desk = desk_with(*THINGS)
        self.check_error(desk, "within x no 89", UnknownName, value="no")
        self.check_error(desk, "amount no 99 99 0", UnknownName, value="no")
        self.check_error(desk, "claim x corner no 99", UnknownName, value="no")
        self.check_error(desk, "faces no 99", UnknownName, value="no")

    def test_unknown_labels(self):
        desk = desk_with(*THINGS, "claim k corner p 3")
        for command in ("forget p", "forget x", "state b", "claimed kk", "state x"):
            self.check_error(desk, command, UnknownLabel, value=command.split(" ")[1])
        for value in any_kinds() + ["p", "kk", "K", "", ["k"], ("k",), b"k"]:
            for told in (raised(desk.claim_of, value), raised(desk.claim_of, label=value), raised(desk.fits, value),
                         raised(desk.fits, label=value),
                         raised(desk.attach, value, None), raised(desk.attach, paper=([1, 1], 0), label=value)):
                self.assertIs(type(told), UnknownLabel)
                self.assertIs(told.value, value)

    def test_points_and_wheels_that_are_none(self):
        self.check_error(Desk(), "points p 0", InvalidPoints, value=ratios([[0]]))
        self.check_error(Desk(), "points p 0 1,2", InvalidPoints, value=ratios([[0], [1, 2]]))
        self.check_error(Desk(), "points p" + " 0" * 10, InvalidPoints, value=ratios([[0]] * 10))
        self.check_error(Desk(), "points p 1,2,3,4,5,6,7,8,9 1,2,3,4,5,6,7,8,9", InvalidPoints,
                         value=ratios([list(range(1, 10))] * 2))
        self.check_error(Desk(), "wheel w 1 1 -1", InvalidWheel, value=ratios([[1], [1], [-1]]))
        self.check_error(Desk(), "wheel w 1/2 1 -1 -3", InvalidWheel, value=ratios([[Ratio(1, 2)], [1], [-1], [-3]]))
        self.check_error(Desk(), "wheel w 1,2,3 1,2,3", InvalidWheel, value=ratios([[1, 2, 3]] * 2))

    def test_bodies_that_are_not_made(self):
        desk = desk_with(*THINGS)
        self.check_error(desk, "body x few", NotFew)
        self.check_error(desk, "body x q", NotCorner, position=3)
        self.check_error(desk, "spokes x s", InvalidWheel, value=[[], [], [], []])
        for many in (0, 1, 10, 99):
            self.check_error(desk, f"simplex x {many}", InvalidMany, value=many)
        self.check_error(desk_with("simplex s 9"), "pyramid x s", TooMany, what="corners", limit=9)
        flat = desk_with("points p 0,0,0,0,0,0,0,0 1,0,0,0,0,0,0,0", "body b p", "simplex s 5")
        self.check_error(flat, "pyramid x b", TooMany, what="numbers", limit=8)
        self.check_error(flat, "joined x b s", TooMany, what="numbers", limit=8)
        self.check_error(flat, "joined x s s", TooMany, what="corners", limit=9)
        self.check_error(desk_with(*THINGS, "worded y 0 2 2 2 2", "spun z y"), "joined x z b", NotFew)

    def test_moves_that_fail(self):
        desk = desk_with(*THINGS)
        self.check_error(desk, "moved x b 0 1", InvalidTable, value=ratios([[1]]))
        self.check_error(desk, "moved x b 0 1 1,2", InvalidTable, value=ratios([[1], [1, 2]]))
        self.check_error(desk, "moved x b 0,0,0 1,0 0,1", InvalidNumbers, value=ratios([[0, 0, 0]])[0])
        self.check_error(desk, "moved x b 1/2 1 1", Flattened)
        self.check_error(desk, "moved x b 0 1,2 3", InvalidTable, value=ratios([[1, 2], [3]]))

    def test_faces_figures_words_and_letters_that_fail(self):
        desk = desk_with(*THINGS, "simplex two 2")
        self.check_error(desk, "within x b 04", InvalidPlaces, value=[0, 4])
        self.check_error(desk, "within x b 03", NotFace)
        self.check_error(desk, "within x b -", TooFew)
        self.check_error(desk, "within x b 2", TooFew)
        self.check_error(desk, "figure x b 4", InvalidPlace, value=4)
        self.check_error(desk, "figure x two 0", TooFew)
        self.check_error(desk, "worded x 0 1 3", InvalidWord, value=(0, [1, 3]))
        self.check_error(desk, "worded x 3 2", InvalidWord, value=(3, [2]))
        self.check_error(desk, "letters x w 0", InvalidTable, value=ratios([[0]]))
        self.check_error(desk, "letters x v 1,0", InvalidTable, value=ratios([[1, 0]]))

    def test_places_that_are_none(self):
        desk = desk_with(*THINGS)
        self.check_error(desk, "amount p 4 0 1", InvalidPlace, value=4)
        self.check_error(desk, "amount p 3 2 1", InvalidPlace, value=2)
        self.check_error(desk, "amount p 5 7 1", InvalidPlace, value=5)
        self.check_error(desk, "faces b 10", InvalidMany, value=10)
        self.check_error(desk, "holds b 9", InvalidPlaces, value=[9])

    def test_claims_that_are_none(self):
        desk = desk_with(*THINGS)
        square = Body([[0, 0], [1, 0], [0, 1], [1, 1]])
        self.check_error(desk, "claim x corner p 4", InvalidClaim, value=("corner", ratios([[0, 0], [1, 0], [0, 1], [1, 1]]),
                                                                          4))
        self.check_error(desk, "claim x inner few 0", InvalidClaim, value=("inner", ratios([[0], [1], [2], [3], [4]]), 0))
        self.check_error(desk, "claim x face b 04", InvalidClaim, value=("face", square, [0, 4]))
        self.check_error(desk, "claim x open s 9", InvalidClaim, value=("open", simplex(4), [9]))
        self.check_error(desk, "claim x balanced w 5", InvalidClaim, value=("balanced", ratios([[1], [1], [-1], [-1], [0]]),
                                                                            [5]))
        self.check_error(desk, "claim x tipped v 06", InvalidClaim, value=("tipped", desk["v"], [0, 6]))

    def test_what_an_error_holds_is_changed_and_the_desk_is_not(self):
        desk = desk_with(*THINGS)
        before = seen(desk)
        for command in ("claim x inner few 0", "claim x balanced w 5", "spokes x s"):
            told = raised(desk.do, command).value
            for part in told:
                if isinstance(part, list):
                    part.clear()
        self.assertEqual(seen(desk), before)


class DoAllTest(unittest.TestCase, Wrong):
    def test_answers(self):
        desk = Desk()
        self.assertEqual([desk.do_all(), desk.do_all("simplex s 3"), desk.do_all("names", "drop s", "names", "undo", "names")],
                         [[], ["-"], ["s", "-", "-", "drop s", "s"]])
        self.assertEqual([len(desk), undone(desk)], [1, ["drop s"]])

    def test_one_that_fails_leaves_nothing(self):
        desk = desk_with(*THINGS, "claim k corner p 3", "undo")
        before = seen(desk)
        tries = [
            (("drop p", "drop b", "drop p"), 2, UnknownName), (("names", None), 1, InvalidCommand), (("simplex x 1",), 0,
                                                                                                     InvalidMany),
            (("claim a corner p 3", "claim a corner p 3"), 1, LabelTaken), (("undo", "undo", "redo", "redo", "redo", "redo"),
                                                                            5, NothingToRedo),
            (("redo", "redo"), 1, NothingToRedo), (("amount p 0 0 9", "forget k"), 1, UnknownLabel),
            (("simplex x 3", "body y q"), 1, NotCorner),
            (("pyramid y t", "pyramid z y", "joined zz z z"), 2, TooMany), (tuple(["undo"] * 10), 9, NothingToUndo),
            (([],), 0, InvalidCommand),
        ]
        for commands, position, cause in tries:
            for call in (desk.do_all, desk.attempt):
                error = raised(call, *commands)
                self.assertEqual([type(error), error.position, type(error.position), type(error.__cause__)],
                                 [CommandFailed, position, int, cause])
                self.assertEqual(seen(desk), before)
        self.assertEqual(desk.do("redo"), "claim k corner p 3")

    def test_the_cause_has_its_attributes(self):
        error = raised(desk_with(*THINGS).do_all, "names", "simplex x 10")
        self.assertEqual([error.position, error.__cause__.value], [1, 10])

    def test_attempts(self):
        desk = desk_with(*THINGS, "claim k corner p 3", "undo")
        before = seen(desk)
        commands = ("redo", "drop p", "state k", "names", "undo", "undo", "undo", "simplex x 3", "names")
        told = desk.attempt(*commands)
        self.assertEqual(seen(desk), before)
        self.assertEqual([desk.attempt(), desk.attempt("names")], [[], [desk.do("names")]])
        self.assertEqual(desk.do_all(*commands), told)
        self.assertNotEqual(seen(desk), before)

    def test_all_errors_of_commands_are_of_the_package(self):
        desk = desk_with(*THINGS)
        for command in ("undo x", "drop no", "state no", "body x few", "body x q", "pyramid x no"):
            self.assertEqual(type(raised(desk.do, command)).__module__, errors.__name__)
