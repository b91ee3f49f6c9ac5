"""Promises [95], [97], [98]: what each deed keeps, and what each other command answers."""
import unittest

from fewcorners.bodies import Body, moved, simplex
from fewcorners.desk import Desk
from fewcorners.figures import face_body, figure
from fewcorners.likeness import own_maps
from fewcorners.makes import body_by, joined, pyramid, wheel_by
from fewcorners.ratios import Ratio
from fewcorners.steps import told_sums
from fewcorners.texts import written
from fewcorners.wheels import in_letters
from tests.desks import SQUARE_LINES, THINGS, desk_with, is_told, ratios, seen
from tests.helpers import Wrong, any_kinds, raised
from tests.samples import SIX, SQUARE, over, told_points

SQUARE_POINTS = [[0, 0], [1, 0], [0, 1], [1, 1]]
TOLD = Body(SQUARE_POINTS)
THREE = [[1, 0], [1, 0], [0, 1], [0, 1], [-1, -1], [-1, -1]]


def rows_of(rows):
    """The rows in the words of commands."""
    return " ".join(",".join(str(number) for number in row) for row in rows)


class DeedsTest(unittest.TestCase, Wrong):
    def check_kept(self, desk, line, wanted):
        """The deed keeps the thing under its second word, and nothing else is changed but how much can be taken back."""
        before = seen(desk)
        self.assertEqual(desk.do(line), "-")
        name = line.split(" ")[1]
        told = desk[name]
        self.assertEqual([told, type(told), is_told(told)], [wanted, type(wanted), True])
        self.assertEqual(desk.names, sorted(before["names"] + [name]))
        self.assertEqual([{other: desk[other] for other in before["names"]}, len(desk)], [before["things"], before["many"] + 1])
        self.assertEqual([desk.lines(), desk.labels], [before["lines"] + [line], before["labels"]])
        self.assertIs(name in desk, True)
        # It is kept as a thing of its kind, so that the commands of this kind take it.
        asked = "facets " if isinstance(wanted, Body) else "sums " if line.split(" ")[0] in ("points", "corners") else "least "
        self.assertIsNone(raised(desk.do, asked + name))

    def test_points_and_wheels(self):
        self.check_kept(Desk(), "points p 0,0 1,0 0,1 1,1", ratios(SQUARE_POINTS))
        self.check_kept(Desk(), "points p 1/2,-3 0,-1/7", [[Ratio(1, 2), Ratio(-3)], [Ratio(0), Ratio(-1, 7)]])
        self.check_kept(Desk(), "points p 5 5", ratios([[5], [5]]))
        self.check_kept(Desk(), "wheel w 1 1 -1 -1 0", ratios([[1], [1], [-1], [-1], [0]]))
        self.check_kept(Desk(), "wheel w " + rows_of(THREE), ratios(THREE))
        for points in told_points():
            if max(len(str(number)) for row in points for number in row) < 5:
                self.check_kept(Desk(), "points p " + rows_of(points), ratios(points))

    def test_bodies_of_points_and_back(self):
        desk = desk_with("points p 0,0 1,0 0,1 1,1")
        self.check_kept(desk, "body b p", TOLD)
        self.check_kept(desk, "corners c b", ratios(SQUARE_POINTS))
        self.check_kept(desk, "spokes s b", ratios([[1], [-1], [-1], [1]]))
        desk = desk_with("points p " + rows_of(SIX), "body b p")
        self.check_kept(desk, "spokes w b", Body(SIX).wheel())
        self.check_kept(desk, "spun f w", body_by(Body(SIX).wheel()))

    def test_made_bodies(self):
        for many in range(2, 10):
            self.check_kept(Desk(), f"simplex s {many}", simplex(many))
        desk = desk_with(*THINGS)
        self.check_kept(desk, "pyramid x b", pyramid(TOLD))
        self.check_kept(desk, "joined y b b", joined(TOLD, TOLD))
        self.check_kept(desk, "joined z s b", joined(simplex(4), TOLD))

    def test_moved_bodies(self):
        desk = desk_with(*SQUARE_LINES)
        self.check_kept(desk, "moved m b 1,1/2,0 1,0,1 0,2,-1", moved(TOLD, [[1, 0, 1], [0, 2, -1]], [1, Ratio(1, 2), 0]))
        self.check_kept(desk, "moved n m 0,0 1,0 0,1 0,0", moved(desk["m"], [[1, 0], [0, 1], [0, 0]], [0, 0]))

    def test_faces_figures_and_spun_wheels(self):
        desk = desk_with(*THINGS)
        tent = pyramid(TOLD)
        self.check_kept(desk, "within x t 0123", face_body(tent, [0, 1, 2, 3]))
        self.check_kept(desk, "figure y t 4", figure(tent, 4))
        self.check_kept(desk, "spun z w", body_by([[1], [1], [-1], [-1], [0]]))

    def test_wheels_by_words_and_in_letters(self):
        desk = desk_with(*THINGS)
        self.check_kept(desk, "worded x 1 2 3", wheel_by((1, [2, 3])))
        self.check_kept(desk, "worded y 0" + " 0 1" * 9, wheel_by((0, [0, 1] * 9)))
        self.check_kept(desk, "letters z v 1,2 -1/2,1", in_letters(THREE, [[1, 2], [Ratio(-1, 2), 1]]))
        desk = desk_with(*THINGS)
        self.check_kept(desk, "letters z w -3/2", in_letters([[1], [1], [-1], [-1], [0]], [[Ratio(-3, 2)]]))

    def test_amounts(self):
        desk = desk_with(*SQUARE_LINES)
        self.assertEqual([desk.do("amount p 3 0 1/4"), desk.do("amount p 0 1 -2"), desk.do("amount p 0 1 -2")], ["-"] * 3)
        self.assertEqual(desk["p"], [[Ratio(0), Ratio(-2)], [Ratio(1), Ratio(0)], [Ratio(0), Ratio(1)],
                                     [Ratio(1, 4), Ratio(1)]])
        self.assertEqual([desk["b"], desk.names, len(desk)], [TOLD, ["b", "p"], 5])

    def test_what_is_kept_does_not_hang_on_other_names(self):
        desk = desk_with(*SQUARE_LINES, "corners c b", "spokes w b", "spun x w", "letters y w 2")
        others = {name: desk[name] for name in "bcwxy"}
        desk.do_all("amount p 3 0 7", "amount c 0 0 -5")
        self.assertEqual({name: desk[name] for name in "bwxy"}, {name: others[name] for name in "bwxy"})
        desk.do_all("drop p", "drop b", "drop w")
        self.assertEqual([desk["x"], desk["y"], desk.names], [others["x"], others["y"], ["c", "x", "y"]])

    def test_dropped_and_kept_again_as_another_thing(self):
        desk = desk_with(*SQUARE_LINES)
        self.assertEqual([desk.do("drop b"), desk.names, "b" in desk, len(desk)], ["-", ["p"], False, 3])
        self.assertEqual([desk.do("wheel b 1 1 -1 -1"), desk["b"]], ["-", ratios([[1], [1], [-1], [-1]])])
        self.assertEqual(type(raised(desk.do, "facets b")).__name__, "UnknownName")

    def test_claims_noted_and_forgotten(self):
        desk = desk_with(*THINGS)
        told = ["claim k corner p 3", "claim l inner q 3", "claim m face b 01", "claim n open b 03", "claim o balanced w 02",
                "claim a tipped w 01",
                "claim p alike b b", "claim b unlike b s", "claim c simplicial b", "claim d folded t"]
        self.assertEqual(desk.do_all(*told), [line.split(" ")[1] + " true" for line in told])
        self.assertEqual([desk.labels, len(desk)], [sorted(line.split(" ")[1] for line in told), len(THINGS) + 10])
        self.assertEqual([desk.do("claimed k"), desk.do("claimed o"), desk.do("claimed d")], ["corner p 3", "balanced w 02",
                                                                                              "folded t"])
        claims = [desk.claim_of(label) for label in "klmnoapbcd"]
        self.assertEqual(claims, [
            ("corner", ratios(SQUARE_POINTS), 3), ("inner", ratios([[0, 0], [4, 0], [0, 4], [1, 1]]), 3),
            ("face", TOLD, [0, 1]), ("open", TOLD, [0, 3]),
            ("balanced", ratios([[1], [1], [-1], [-1], [0]]), [0, 2]), ("tipped", ratios([[1], [1], [-1], [-1], [0]]), [0, 1]),
            ("alike", TOLD, TOLD),
            ("unlike", TOLD, simplex(4)), ("simplicial", TOLD), ("folded", pyramid(TOLD))])
        self.assertEqual([type(part) for claim in claims for part in claim[1:] if not isinstance(part, Body)],
                         [list, int, list, int, list, list, list, list, list, list])
        self.assertEqual([desk.do("forget k"), "k" in desk.labels, desk.names],
                         ["-", False, sorted(line.split(" ")[1] for line in THINGS)])

    def test_the_other_sides_are_false(self):
        desk = desk_with(*THINGS)
        told = ["claim k inner p 3", "claim l corner q 3", "claim m open b 01", "claim n face b 03", "claim o tipped w 02",
                "claim a balanced w 01",
                "claim p unlike b b", "claim b alike b s", "claim c folded b", "claim d simplicial t"]
        self.assertEqual(desk.do_all(*told), [line.split(" ")[1] + " false" for line in told])
        self.assertEqual(desk.do("claim e face b -"), "e true")


class AnswersTest(unittest.TestCase, Wrong):
    def check_answers(self, desk, wanted):
        before = seen(desk)
        for command, answer in wanted.items():
            self.assertEqual(desk.do(command), answer, command)
            self.assertEqual(desk(command), answer)
        self.assertEqual(seen(desk), before)

    def test_names_and_labels(self):
        self.check_answers(Desk(), {"names": "-", "states": "-"})
        self.check_answers(desk_with("simplex b 2", "simplex a1 3", "simplex a 4"), {"names": "a a1 b"})
        desk = desk_with(*SQUARE_LINES, "claim k corner p 3", "claim f face b 03", "claim b unlike b b")
        self.check_answers(desk, {"states": "b false, f false, k true", "state k": "true", "state f": "false",
                                  "claimed f": "face b 03",
                                  "claimed k": "corner p 3", "claimed b": "unlike b b"})

    def test_show(self):
        desk = desk_with(*THINGS, "points r 1/2,-3 0,-1/7")
        self.check_answers(desk, {"show p": "0,0 1,0 0,1 1,1", "show r": "1/2,-3 0,-1/7", "show b": "0,0 1,0 0,1 1,1",
                                  "show w": "1 1 -1 -1 0",
                                  "show v": "1,0 1,0 0,1 0,1 -1,-1 -1,-1", "show s": "0,0,0 1,0,0 0,1,0 0,0,1"})

    def test_size(self):
        desk = desk_with(*THINGS, "points alike 1,1 1,1 1,1")
        self.check_answers(desk, {"size p": "4 2 1", "size few": "5 1 3", "size b": "4 2 1", "size s": "4 3 0",
                                  "size t": "5 3 1", "size w": "5 1",
                                  "size v": "6 2", "size six": "6 3 2", "size alike": "3 0 2"})

    def test_sums(self):
        desk = desk_with(*THINGS, "corners sc s", "points h 0 1/2 2")
        self.check_answers(desk, {"sums p": "1,-1,-1,1", "sums few": "1,0,0,-4,3 0,1,0,-3,2 0,0,1,-2,1", "sums sc": "-"})
        self.assertEqual(desk.do("sums h"), ",".join(str(number) for number in told_sums([[0], [Ratio(1, 2)], [2]])[0]))

    def test_word(self):
        desk = desk_with(*THINGS, "worded x 4" + " 0 1" * 5)
        self.check_answers(desk, {"word b": "0; 2 2", "word s": "4; -", "word t": "1; 2 2", "word w": "1; 2 2",
                                  "word v": "0; 0 2 0 2 0 2",
                                  "word six": "0; 0 2 0 2 0 2", "word x": "4; 0 1 0 1 0 1 0 1 0 1"})

    def test_numbers_and_maps(self):
        desk = desk_with(*THINGS)
        self.check_answers(desk, {"numbers b": "1 4 4 1", "numbers t": "1 5 8 5 1", "numbers six": "1 6 12 8 1",
                                  "numbers s": "1 4 6 4 1",
                                  "maps b": "8", "maps s": "24", "maps six": "48"})
        self.assertEqual(desk.do("maps t"), str(own_maps(pyramid(TOLD))))

    def test_lists_of_lots(self):
        desk = desk_with(*THINGS, "simplex two 2")
        self.check_answers(desk, {
            "facets b": "01 02 13 23", "facets two": "0 1", "facets t": "0123 014 024 134 234", "edges b": "01 02 13 23",
            "edges two": "01",
            "twins b": "03 12", "twins s": "0123", "twins six": "01 23 45", "faces b 0": "-", "faces b 1": "0 1 2 3",
            "faces b 2": "01 02 13 23",
            "faces b 3": "none", "faces b 4": "0123", "faces b 9": "none", "faces six 6": "012345",
            "faces t 3": "014 024 134 234"})

    def test_lots(self):
        desk = desk_with(*THINGS)
        self.check_answers(desk, {"holds b 03": "0123", "holds b 01": "01", "holds b -": "-", "holds six 05": "05",
                                  "holds t 123": "0123",
                                  "peaks w": "4", "peaks v": "-", "least w": "02 03 12 13 4",
                                  "least v": "024 025 034 035 124 125 134 135"})

    def test_same(self):
        desk = desk_with(*SQUARE_LINES, "points q 0,0 4,0 0,4 1,1", "simplex s 4", "wheel w 1 1 -1 -1", "corners c b",
                         "points d 0,0 0,1 1,0 1,1",
                         "body e d", "spokes f b", "wheel g 1 -1 -1 1", "wheel h -1 1 1 -1",
                         "wheel i 1,0 1,0 0,1 0,1 -1,-1 -1,-1")
        self.check_answers(desk, {"same p c": "yes", "same p p": "yes", "same p d": "no", "same p q": "no", "same b b": "yes",
                                  "same b e": "no",
                                  "same b s": "no", "same f g": "yes", "same f h": "no", "same w i": "no", "same g f": "yes"})

    def test_numbers_of_commands_count_by_their_worth(self):
        desk = desk_with("points p 1/2,0 0,1", "points q 0,0 0,1", "amount q 0 0 1/2")
        self.check_answers(desk, {"same p q": "yes"})
        self.assertEqual(written("points", desk["p"]), "points\nat 1/2 0\nat 0 1\n")

    def test_the_same_command_by_place_and_by_name(self):
        desk = desk_with(*THINGS)
        self.assertEqual([desk.do(command="size b"), desk(command="size b"), desk.do("size b")], ["4 2 1"] * 3)
        self.assertEqual([type(desk.do("maps b")), type(desk.do_all("maps b"))], [str, list])

    def test_long_numbers_in_answers(self):
        desk = desk_with("points p 999999/999998,1/999997 -999999/999983,3 1/7,999998/999979 5,-1/999961", "body b p",
                         "spokes w b")
        self.assertEqual(desk.do("show w"), rows_of(Body(desk["p"]).wheel()))
        self.assertGreater(len(desk.do("show w")), 60)


class ThingsTest(unittest.TestCase, Wrong):
    def test_nothing_at_first(self):
        desk = Desk()
        self.assertEqual([desk.names, desk.labels, len(desk), desk.lines(), bool(desk.do("names") == "-")],
                         [[], [], 0, [], True])
        self.check_asked(lambda value: value in desk, {}, "value", False, any_kinds())

    def test_names_of_things_kept(self):
        desk = desk_with(*THINGS, "claim label corner p 3")
        for name in desk.names:
            self.assertIs(name in desk, True)
        self.check_asked(lambda value: value in desk, {}, "value", False,
                         any_kinds() + ["label", "P", "p ", "", ["p"], ("p",), b"p", {"p": 0}, TOLD, SQUARE, slice(0, 1),
                                        "drop", "k"])

    def test_unknown_names(self):
        desk = desk_with(*THINGS, "claim label corner p 3")
        for value in any_kinds() + ["label", "P", "p ", "", ["p"], ("p",), slice(0, 1), TOLD, ("p", "b")]:
            error = raised(lambda value=value: desk[value])
            self.assertEqual(type(error).__name__, "UnknownName")
            self.assertIs(error.value, value)

    def test_what_was_told_is_changed_and_the_desk_is_not(self):
        desk = desk_with(*THINGS, "claim k corner p 3", "claim l balanced w 02", "claim m face b 01")
        before = seen(desk)
        for name in desk.names:
            told = desk[name]
            if isinstance(told, list):
                told[0][0] = Ratio(77)
                told[1].clear()
                told.pop()
        for label in desk.labels:
            claim = desk.claim_of(label)
            for part in claim[1:]:
                if isinstance(part, list):
                    part.clear()
        for told in (desk.names, desk.labels, desk.lines(), desk.do_all("names", "states"), desk["p"], desk["b"].points(),
                     desk["b"].wheel()):
            told.clear()
        self.assertEqual(seen(desk), before)
        self.assertEqual([desk["p"] is desk["p"], desk["p"][0] is desk["p"][0]], [False, False])

    def test_names_and_labels_cannot_be_assigned(self):
        desk = desk_with(*SQUARE_LINES)
        for name in ("names", "labels"):
            self.assertIsInstance(raised(setattr, desk, name, []), AttributeError)

    def test_a_label_may_be_a_name(self):
        desk = desk_with(*SQUARE_LINES, "claim p corner p 3", "claim b folded b")
        self.assertEqual([desk.names, desk.labels, desk.do("drop b"), desk.do("forget p")], [["b", "p"], ["b", "p"], "b gone",
                                                                                             "-"])
        self.assertEqual([desk.names, desk.labels], [["p"], ["b"]])

    def test_over_the_square_of_the_document(self):
        desk = desk_with("points p " + rows_of(over(SQUARE)), "body b p")
        self.assertEqual([desk.do("word b"), desk.do("numbers b")], ["1; 2 2", "1 5 8 5 1"])
