"""Promises [91], [92]: written forms are read again, and of other strings the wrong line is told."""
import random
import unittest

from fewcorners.errors import InvalidText
from fewcorners.ratios import Ratio
from fewcorners.readers import read
from fewcorners.texts import is_of_sort, written
from tests.helpers import Wrong, any_kinds, raised
from tests.samples import told_points
from tests.test_texts import FORMS, SORTS
from tests.test_words import words_of

POINTS = "points\nat 1 0\nat 0 1/2\n"
FORM = "form 1\nnormal -1 0\n"
# Texts with the number of their wrong line.
WRONG = {
    # No form at all, and lines that lack.
    "": 1, "\n": 1, " ": 1, "points": 1, "point\n": 1, "Points\n": 1, "at 1\n": 1, "normal 1\n": 1, "1\n": 1, "\n\n": 1,
    "\nlot\n": 1,
    "points\n": 2, "points\nat 1\n": 3, "points\nat 1 2\n": 3, "form 1\n": 2, " lot\n": 1, "simplex 2\n": 1, "body\n": 1,
    "lot\r\n": 1, "lot\t0\n": 1,
    # A last line without a line feed.
    "lot": 1, "lot 0 2": 1, "numbers 1": 1, "wheel 1 1 -1 -1": 1, "word 1 2 3": 1, "form 1": 1, "form 1\nnormal 1": 2,
    "points\nat 1": 2, "points\nat 1\nat 2": 3, "points\nat 1\nat 2\nat 3": 4, "points\na": 2, "points\nat 1\n ": 3,
    # Anything behind a form that is done.
    "lot 0\nnormal 1\n": 2, "numbers 1\nnormal 1\n": 2, "word 2\nat 1\n": 2,
    "lot\n\n": 2, "lot\nlot\n": 2, "lot\nx": 2, "lot 0\n ": 2, "numbers 1\nnumbers 1\n": 2, "wheel 1 1 -1 -1\n1": 2,
    "word 2\nword 2\n": 2,
    FORM + "\n": 3, FORM + "normal 1\n": 3, FORM + "x": 3, FORM + FORM: 3, POINTS + "\n": 4, POINTS + "lot\n": 4,
    POINTS + "points\n": 4,
    POINTS + POINTS: 4,
    # Points: of another length than the one ahead, a tenth one, too many numbers, none.
    "points\nat 1\nat 1 2\n": 3, "points\nat 1 2\nat 1\n": 3, "points\nat 1 2\nat 1 2\nat 1 2 3\nat 1 2\n": 4,
    "points\n" + "at 1\n" * 10: 11, "points\n" + "at 1\n" * 11: 11, "points\n" + "at 1\n" * 9 + "x": 11,
    "points\n" + "at 1\n" * 9 + "\n": 11,
    "points\nat" + " 1" * 9 + "\nat" + " 1" * 9 + "\n": 2, "points\nat\nat\n": 2, "points\nat 1\nat\n": 3,
    "points\n\nat 1\nat 1\n": 2,
    "points 1\nat 1\nat 1\n": 1, "points \nat 1\nat 1\n": 1, "points\nAt 1\nat 1\n": 2, "points\nnormal 1\nat 1\n": 2,
    # A blank more or less.
    "points\nat  1\nat 1\n": 2, "points\nat 1 \nat 1\n": 2, "points\n at 1\nat 1\n": 2, "points\nat1\nat 1\n": 2,
    "lot  0\n": 1, "lot \n": 1,
    "lot 0 \n": 1, "lot 0  2\n": 1, "lot0\n": 1, "numbers  1\n": 1, "numbers 1 \n": 1, "numbers1\n": 1, "word  2\n": 1,
    "word 0 2  2\n": 1,
    "wheel 1 1 -1  -1\n": 1, "wheel 1, 1 -1 -1\n": 1, "form  1\nnormal 1\n": 1, "form 1 \nnormal 1\n": 1,
    "form 1\n normal 1\n": 2,
    "form 1\nnormal 1 \n": 2, "form 1\nnormal  1\n": 2,
    # A wheel, a word, a lot that is none.
    "wheel\n": 1, "wheel 1 1 -1\n": 1, "wheel 1 1 -1 -2\n": 1, "wheel 1 1 1 -3\n": 1, "wheel 1,0 1,0 -1,0 -1,0\n": 1,
    "wheel 1 -1 1,0 -1\n": 1,
    "wheel 0,0 0,0 0,0 0,0\n": 1, "wheel 1,1,1 -1,-1,-1 1,1,1 -1,-1,-1\n": 1, "wheel 1, 1 -1 -1,\n": 1,
    "wheel 1 1 -1 -1 1 1 -1 -1 1 -1\n": 1,
    "wheel x x x x\n": 1, "wheel 1;0\n": 1, "word\n": 1, "word 1\n": 1, "word 0 1 3\n": 1, "word 0 3 2\n": 1, "word 10\n": 1,
    "word 0 2 -2\n": 1,
    "word 0 2 2 2\n": 1, "word 00 2 2\n": 1, "word 0 02 2\n": 1, "word 0 2 0 2 0 2 0 2\n": 1, "word 0 2 0 2 0 2 0\n": 1,
    "word 0 2/1 2\n": 1,
    "word 2; 2\n": 1, "word +2\n": 1, "lot 2 0\n": 1, "lot 0 0\n": 1, "lot 9\n": 1, "lot 0 9\n": 1, "lot -1\n": 1,
    "lot -\n": 1, "lot 02\n": 1,
    "lot 00\n": 1, "lot 0,2\n": 1, "lot 1/2\n": 1, "lot x\n": 1, "lot 0 10\n": 1,
    # Numbers that are none.
    "numbers\n": 1, "numbers" + " 1" * 41 + "\n": 1, "numbers 2/4\n": 1, "numbers 2/1\n": 1, "numbers 0/2\n": 1,
    "numbers 1/0\n": 1,
    "numbers 1/1\n": 1, "numbers -0\n": 1, "numbers 00\n": 1, "numbers 01\n": 1, "numbers -01\n": 1, "numbers 1/02\n": 1,
    "numbers 01/2\n": 1,
    "numbers 1/-2\n": 1, "numbers -1/-2\n": 1, "numbers +1\n": 1, "numbers --1\n": 1, "numbers 1.5\n": 1, "numbers 1e3\n": 1,
    "numbers 1/\n": 1,
    "numbers /2\n": 1, "numbers -\n": 1, "numbers 1/2/3\n": 1, "numbers 1_0\n": 1, "numbers x\n": 1, "numbers 1,2\n": 1,
    "numbers 1 -0\n": 1,
    "numbers 1 / 2\n": 1, "numbers - 1\n": 1, "numbers -0/2\n": 1, "numbers 0x1\n": 1,
    "points\nat 1\nat 2/4\n": 3, "points\nat -0\nat 1\n": 2, "points\nat 1\nat 007\n": 3, "points\nat 1\nat x\n": 3,
    "points\nat 1,2\nat 1,2\n": 2,
    # Forms.
    "form\nnormal 1\n": 1, "form 1 2\nnormal 1\n": 1, "form 2/4\nnormal 1\n": 1, "form x\n": 1, "form 1\nnormal\n": 2,
    "form 1\nnormal" + " 1" * 9 + "\n": 2, "form 1\nnormal -0\n": 2, "form 1\nform 1\n": 2, "form 1\nat 1\n": 2,
    "form 1\nnormal 1 x\n": 2,
    "form 1\n\nnormal 1\n": 2, "form 1\nnormals 1\n": 2, "form -0\nnormal 1\n": 1, "normal 1\nform 1\n": 1,
    # The first wrong line is told, whatever comes behind it.
    "points\nat 1\nat 1 2\nat -0\n": 3, "lot 9\nlot 0\n": 1, "x\n\n\n": 1, "points\nat x\nat 1": 2, "form 1\nnormal x": 2,
    "form x\nnormal x\n": 1,
}


def ratios(value):
    """The value with each integer as a Ratio, lists for tuples inside it: what is read for points, wheels and numbers."""
    if isinstance(value, (list, tuple)):
        return [ratios(part) for part in value]
    return Ratio(0) + value


def told(sort, value):
    """The value as it is read."""
    if sort == "form":
        return ratios(value[0]), ratios(value[1])
    if sort == "word":
        return value[0], list(value[1])
    return list(value) if sort == "lot" else ratios(value)


def kinds_of(value):
    """The kinds of a value and of all inside it."""
    if isinstance(value, (list, tuple)):
        return [type(value)] + [kinds_of(part) for part in value]
    return type(value)


class ReadTest(unittest.TestCase, Wrong):
    def check_read(self, sort, value, text):
        found = self.check_new(read, text)
        wanted = (sort, told(sort, value))
        self.assertEqual([found, kinds_of(found)], [wanted, kinds_of(wanted)])
        self.assertEqual([read(text=text), written(*found)], [wanted, text])
        self.assertIs(is_of_sort(*found), True)

    def test_each_written_form(self):
        for sort in SORTS:
            for value, text in FORMS[sort]:
                self.check_read(sort, value, text)

    def test_written_forms_of_the_samples(self):
        for points in told_points():
            self.check_read("points", points, written("points", points))
        for many in range(2, 8):
            for word in words_of(many)[::2]:
                self.check_read("word", word, written("word", word))

    def test_some(self):
        self.assertEqual(read("wheel 1,0 1,0 0,1 0,1 -1,-1 -1,-1\n")[1][4], [Ratio(-1), Ratio(-1)])
        self.assertEqual([read("lot\n"), read("word 9\n"), read("numbers -1/2 3\n")],
                         [("lot", []), ("word", (9, [])), ("numbers", [Ratio(-1, 2), Ratio(3)])])
        self.assertEqual(read(POINTS), ("points", [[Ratio(1), Ratio(0)], [Ratio(0), Ratio(1, 2)]]))
        self.assertEqual(read(FORM), ("form", ([Ratio(-1), Ratio(0)], Ratio(1))))


class WrongLineTest(unittest.TestCase, Wrong):
    def check_line(self, text, line):
        for error in (raised(read, text), raised(read, text=text)):
            self.assertIs(type(error), InvalidText, text)
            self.assertEqual([error.line, type(error.line)], [line, int], text)

    def test_wrong_texts(self):
        for text, line in WRONG.items():
            self.check_line(text, line)

    def test_lines_that_lack_and_lines_without_a_line_feed(self):
        for sort in SORTS:
            for _, text in FORMS[sort]:
                many = text.count("\n")
                self.check_line(text[:-1], many)
                self.check_line(text + "\n", many + 1)
                self.check_line(text + "x", many + 1)
                self.check_line(" " + text, 1)
                self.check_line(text[1:], 1)
                lines = text.splitlines(keepends=True)
                for short in range(many):
                    if sort != "points" or short < 3:
                        self.check_line("".join(lines[:short]), short + 1)

    def test_a_sign_changed_left_out_or_put_in(self):
        """Whatever is read has just the text as its written form; else the lines ahead of the wrong one stay right."""
        chance = random.Random(92)
        seen = {True: 0, False: 0}
        texts = [text for sort in SORTS for _, text in FORMS[sort] if len(text) < 100]
        for _ in range(3000):
            text = chance.choice(texts)
            at = chance.randrange(len(text))
            text = text[:at] + chance.choice(["", text[at] * 2, chance.choice("0123456789 ,/-\nabtw")]) + text[at + 1:]
            error = raised(read, text)
            seen[error is None] += 1
            if error is None:
                self.assertEqual(written(*read(text)), text)
            else:
                self.check_line(text, error.line)
                self.check_prefix(text, error.line)
        self.assertGreater(min(seen.values()), 150)

    def check_prefix(self, text, line):
        """The lines ahead of the wrong one are right: of them alone nothing is wrong, or the line behind them lacks."""
        ahead = "".join(text.splitlines(keepends=True)[:line - 1])
        error = raised(read, ahead)
        self.assertTrue(error is None or error.line == line, text)

    def test_values_that_are_no_strings(self):
        values = [value for value in any_kinds() if not isinstance(value, str)] + [["lot\n"], b"lot\n", ("lot\n",),
                                                                                   {"lot\n": 0}]
        for value in values:
            self.check_line(value, 0)
