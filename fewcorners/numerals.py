"""NUMBERS, COUNTS, rows and lots as words of texts and of commands."""
from fewcorners.ratios import Ratio

DIGITS = "0123456789"


def is_digits(word):
    """Whether the word is one decimal digit or more."""
    return word != "" and all([sign in DIGITS for sign in word])


def count_of(word):
    """The COUNT that is written so; None if none is."""
    if not is_digits(word) or word[0] == "0" and word != "0":
        return None
    return int(word)


def number_of(word):
    """The NUMBER that is written so, as a Ratio; None if none is."""
    top, stroke, bottom = word.partition("/")
    digits = top.removeprefix("-")
    if not is_digits(digits) or stroke != "" and count_of(bottom) in (None, 0):
        return None
    above = int(digits) if digits == top else -int(digits)
    number = Ratio(above, 1 if stroke == "" else int(bottom))
    # Written forms are single: needless zeros, -0 and what is not in lowest terms are written otherwise.
    return number if str(number) == word else None


def all_or_none(found):
    """The list; None if one of it is None."""
    return None if None in found else found


def counts_of(words):
    """The COUNTS that are written so; None if one of them is none."""
    return all_or_none([count_of(word) for word in words])


def numbers_of_words(words):
    """The NUMBERS that are written so; None if one of them is none."""
    return all_or_none([number_of(word) for word in words])


def words_text(values):
    """The NUMBERS or words with blanks between."""
    return " ".join([str(value) for value in values])


def row_text(row):
    """The NUMBERS with commas between."""
    return ",".join([str(number) for number in row])


def rows_text(rows):
    """The rows with blanks between."""
    return " ".join([row_text(row) for row in rows])
