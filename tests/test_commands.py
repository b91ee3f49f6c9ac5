"""Promises [95], [97], [98]: names, and which strings are commands and deeds, whatever is kept."""
import itertools
import unittest

from fewcorners.commands import is_command, is_deed, is_name
from tests.helpers import Wrong, any_kinds

# Of each row of both tables the kinds of what stands behind its word; `.` behind a kind: one of it or more.
DEEDS = {
    "points": "name row.", "wheel": "name row.", "body": "name name", "corners": "name name", "spokes": "name name",
    "simplex": "name count", "pyramid": "name name", "joined": "name name name", "moved": "name name row row.",
    "within": "name name lot", "figure": "name name count", "spun": "name name", "worded": "name count count.",
    "letters": "name name row.", "amount": "name count count number", "drop": "name", "forget": "name",
    "claim k corner": "name count", "claim k inner": "name count", "claim k face": "name lot", "claim k open": "name lot",
    "claim k balanced": "name lot", "claim k tipped": "name lot", "claim k alike": "name name", "claim k unlike": "name name",
    "claim k simplicial": "name", "claim k folded": "name",
}
OTHERS = {
    "undo": "", "redo": "", "state": "name", "states": "", "claimed": "name", "names": "", "show": "name", "size": "name",
    "sums": "name", "word": "name", "numbers": "name", "maps": "name", "facets": "name", "edges": "name", "twins": "name",
    "faces": "name count", "holds": "name lot", "peaks": "name", "least": "name", "same": "name name",
}
# Words that tell something of the kind, with the edges, and words that don't.
GOOD = {
    "name": ["a", "z", "b1", "abcdefgh", "a0000000", "points", "undo", "claim", "p2q"],
    "count": ["0", "1", "9", "10", "99"],
    "number": ["0", "7", "-7", "123456", "-999999", "1/2", "-1/2", "999999/999998", "-123456/654323", "100000"],
    "row": ["0", "1,2", "-1/2,3", "1,2,3,4,5,6,7,8,9", "0,0,0", "123456,-123456/654323"],
    "lot": ["-", "0", "9", "01", "013", "0123456789", "89"],
}
BAD = {
    "name": ["", "A", "aB", "1", "1a", "a-", "a_b", "abcdefghi", "a.b", "a,b", "-", "0", "a\n", "a\t"],
    "count": ["", "-1", "100", "00", "01", "+1", "1/2", "x", "1,2", "-", "1.", "-0", "1\n", "001"],
    "number": ["", "1234567", "-1234567", "1/1234567", "1234567/2", "2/4", "2/1", "0/2", "-0", "00", "01", "1/0", "1/-2", "+1",
               "1.5", "x", "1,2", "/2",
               "1/", "-", "--1", "1/2/3", "0000001", "1000000", "-1000000/7", "1\n", "1/02", "1e3", "1_0"],
    "row": ["", ",", "1,", ",1", "1,,2", "1,x", "1,2/4", "1,-0", "1234567", "1,1/1234567", ",".join("1234567890"[:10]), "1;2",
            "[1]", "1,2,3,4,5,6,7,8,9,10"],
    "lot": ["", "10", "00", "011", "102", "0-", "--", "-0", "0,1", "a", "01234567890", "0 1", "none", "9876543210", "01\n"],
}


def parts_of(shape):
    """The kinds of a shape, and whether the last one may stand more than once."""
    words = [word.rstrip(".") for word in shape.split()]
    return words, shape.endswith(".")


def shapes():
    for table in (DEEDS, OTHERS):
        for word, shape in table.items():
            yield word, *parts_of(shape)


def plain(kinds):
    """The first good word of each kind."""
    return [GOOD[kind][0] for kind in kinds]


class IsNameTest(unittest.TestCase, Wrong):
    def test_names(self):
        self.check_asked(is_name, {}, "value", True, GOOD["name"] + [letter for letter in "abcdefghijklmnopqrstuvwxyz"])
        self.check_asked(is_name, {}, "value", True, ["x" + sign for sign in "abcdefghijklmnopqrstuvwxyz0123456789"])

    def test_no_names(self):
        self.check_asked(is_name, {}, "value", False, BAD["name"] + any_kinds() + [["a"], ("a",), b"a", {"a"}, "a b", " a",
                                                                                   "a ", "ab c", "Z"])
        signs = [chr(code) for code in range(32, 127) if not (chr(code).isdigit() or chr(code).islower())]
        for sign in signs + list("0123456789"):
            self.assertIs(is_name(sign + "a"), False)
        for sign in signs:
            self.assertIs(is_name("a" + sign), False)


class IsCommandTest(unittest.TestCase, Wrong):
    def check_told(self, command, wanted):
        deed = wanted and command.split(" ")[0] in {word.split(" ")[0] for word in DEEDS}
        for told in (is_command(command), is_command(value=command)):
            self.assertIs(told, wanted, command)
        for told in (is_deed(command), is_deed(value=command)):
            self.assertIs(told, deed, command)

    def test_each_row_with_each_good_word(self):
        for word, kinds, more in shapes():
            self.check_told(" ".join([word, *plain(kinds)]), True)
            for at, kind in enumerate(kinds):
                for told in GOOD[kind]:
                    words = plain(kinds)
                    words[at] = told
                    self.check_told(" ".join([word, *words]), True)
            if more:
                self.check_told(" ".join([word, *plain(kinds), *GOOD[kinds[-1]]]), True)
                self.check_told(" ".join([word, *plain(kinds), *plain(kinds[-1:]) * 20]), True)

    def test_each_part_of_another_kind(self):
        for word, kinds, more in shapes():
            for at, kind in enumerate(kinds):
                for told in BAD[kind]:
                    words = plain(kinds)
                    words[at] = told
                    # A word with a blank tells two words; some of these are other commands.
                    if told.split() == [told]:
                        self.check_told(" ".join([word, *words]), False)
                        if more and at == len(kinds) - 1:
                            self.check_told(" ".join([word, *plain(kinds), told]), False)
                            self.check_told(" ".join([word, *words, *plain(kinds[-1:])]), False)

    def test_each_part_left_out_and_doubled(self):
        for word, kinds, more in shapes():
            full = [word, *plain(kinds)]
            for at in range(len(full)):
                less = " ".join(full[:at] + full[at + 1:])
                self.check_told(less, less in COMMANDS_WITH_LESS)
                if at == 0 or kinds[at - 1] != "row":
                    doubled = " ".join(full[:at + 1] + full[at:])
                    self.check_told(doubled, doubled in DOUBLED)
            if not more:
                for extra in ("a", "0", "-", "1,2", ""):
                    self.check_told(" ".join([*full, extra]), False)

    def test_a_blank_more_or_less(self):
        for word, kinds, _ in shapes():
            full = " ".join([word, *plain(kinds)])
            for told in (" " + full, full + " ", full.replace(" ", "  ", 1) + ("" if " " in full else "  "), full + "\n",
                         full.upper(),
                         full.replace(" ", "\t", 1) + ("" if " " in full else "\t"), full[1:], full[0] + full):
                self.check_told(told, False)

    def test_one_of_many_at_least(self):
        for command in ("points p", "wheel w", "moved m b 0,0", "letters l w", "worded w 3"):
            self.check_told(command, False)
        for command in ("points p 0", "wheel w 0", "moved m b 0,0 1", "letters l w 1", "worded w 3 2"):
            self.check_told(command, True)

    def test_claims(self):
        for command in ("claim", "claim k", "claim k corner", "claim k holds b 0", "claim corner p 3", "claim k k corner p 3",
                        "claim K corner p 3",
                        "claim k Corner p 3", "claim k face b", "claim k face b 10", "claim k face b 0 1", "claim k alike b",
                        "claim k alike b c d",
                        "claim k simplicial b c", "claim k folded", "claim k corner p 03", "claim k corner p -",
                        "claim k face p 3 3", "claim 1 folded b",
                        "claim k undo", "claim abcdefghi folded b", "claim k corner 3 p", "corner p 3", "face b -"):
            self.check_told(command, False)
        for command in ("claim k corner p 99", "claim k face b 9", "claim corner corner corner 0", "claim k tipped w -",
                        "claim k alike b b"):
            self.check_told(command, True)

    def test_whatever_is_kept(self):
        for command in ("drop nothing", "show x9", "state k", "amount p 99 99 0", "simplex s 99", "points p 1,2,3,4,5,6,7,8,9",
                        "wheel w 1",
                        "worded w 0 0", "undo", "redo", "same a b", "holds b 89", "faces b 99", "forget k", "claimed k"):
            self.check_told(command, True)

    def test_values_of_all_kinds(self):
        values = any_kinds() + [["undo"], ("undo",), b"undo", {"undo": 0}, "", " ", "\n", "undo undo", "help", "point p 0",
                                "Undo", "und", "undo\n", "-"]
        self.check_asked(is_command, {}, "value", False, values)
        self.check_asked(is_deed, {}, "value", False, values)

    def test_the_examples_numbers(self):
        self.check_told("points p " + ",".join("1" * 9), True)
        self.check_told("points p " + ",".join("1" * 10), False)
        for row in itertools.permutations(["1", "-1/2", "0"]):
            self.check_told("points p " + ",".join(row), True)


# What is left of a row without a word, or is there with a word twice, and yet is a command.
COMMANDS_WITH_LESS = set()
DOUBLED = {"worded a 0 0 0"}
