"""The words of commands, whatever is kept."""
from fewcorners.numerals import all_or_none, count_of, is_digits, number_of
from fewcorners.places import is_lot

SMALL_LETTERS = "abcdefghijklmnopqrstuvwxyz"
NAME_SIGNS = "abcdefghijklmnopqrstuvwxyz0123456789"

# The kinds of what stands behind the word of a command: `new` and `fresh` are a name and a label that are not taken,
# `spoked` is the name of a body or a wheel, `other` one of the kind of the name ahead, `rows` and `counts` stand for
# one row or count, or more.
DEEDS = {
    "points": ("new", "rows"), "wheel": ("new", "rows"), "body": ("new", "points"), "corners": ("new", "body"),
    "spokes": ("new", "body"), "simplex": ("new", "count"), "pyramid": ("new", "body"),
    "joined": ("new", "body", "body"), "moved": ("new", "body", "row", "rows"), "within": ("new", "body", "lot"),
    "figure": ("new", "body", "count"), "spun": ("new", "wheel"), "worded": ("new", "count", "counts"),
    "letters": ("new", "wheel", "rows"), "amount": ("points", "count", "count", "number"), "drop": ("name",),
    "forget": ("label",),
}
CLAIMS = {
    "corner": ("points", "count"), "inner": ("points", "count"), "face": ("body", "lot"), "open": ("body", "lot"),
    "balanced": ("wheel", "lot"), "tipped": ("wheel", "lot"), "alike": ("body", "body"), "unlike": ("body", "body"),
    "simplicial": ("body",), "folded": ("body",),
}
OTHERS = {
    "undo": (), "redo": (), "state": ("label",), "states": (), "claimed": ("label",), "names": (), "show": ("name",),
    "size": ("name",), "sums": ("points",), "word": ("spoked",), "numbers": ("body",), "maps": ("body",),
    "facets": ("body",), "edges": ("body",), "twins": ("body",), "faces": ("body", "count"), "holds": ("body", "lot"),
    "peaks": ("wheel",), "least": ("wheel",), "same": ("name", "other"),
}
ONE_OF_MANY = {"rows": "row", "counts": "count"}


def is_name(value):
    """Whether the value is a name: of a thing, or a label."""
    if not isinstance(value, str) or not 1 <= len(value) <= 8:
        return False
    return value[0] in SMALL_LETTERS and all([sign in NAME_SIGNS for sign in value])


def short_number_of(word):
    """The NUMBER of at most six digits above and below the stroke that is written so; None if none is."""
    top, _, bottom = word.partition("/")
    if len(top.removeprefix("-")) > 6 or len(bottom) > 6:
        return None
    return number_of(word)


def row_of(word):
    """The ROW that is written so; None if none is."""
    numbers = all_or_none([short_number_of(part) for part in word.split(",")])
    return None if numbers is None or len(numbers) > 9 else numbers


def lot_of(word):
    """The LOT that is written so; None if none is."""
    if word == "-":
        return []
    lot = [int(sign) for sign in word] if is_digits(word) else None
    return lot if is_lot(lot, 10) else None


def part_of(kind, word):
    """What the word tells, if something of this kind is wanted; None if it tells no such thing."""
    if kind == "count":
        return count_of(word) if len(word) <= 2 else None
    if kind == "number":
        return short_number_of(word)
    if kind == "row":
        return row_of(word)
    if kind == "lot":
        return lot_of(word)
    if kind == "claim word":
        return word
    return word if is_name(word) else None


def parts_of(shape, words):
    """The list of what the words tell, if these kinds are wanted; None if they tell something else."""
    if len(shape) > 0 and shape[-1] in ONE_OF_MANY:
        ahead = len(shape) - 1
        kind = ONE_OF_MANY[shape[-1]]
        many = all_or_none([part_of(kind, word) for word in words[ahead:]])
        parts = parts_of(shape[:-1], words[:ahead])
        return [*parts, many] if parts is not None and many else None
    if len(words) != len(shape):
        return None
    return all_or_none([part_of(kind, word) for kind, word in zip(shape, words)])


def shape_of(first, words):
    """The kinds that a command with this first word wants of these words behind it; None if there is none."""
    if first == "claim":
        known = len(words) > 1 and words[1] in CLAIMS
        return ("fresh", "claim word", *CLAIMS[words[1]]) if known else None
    return DEEDS[first] if first in DEEDS else OTHERS.get(first)


def parsed(value):
    """A tuple of a command's first word, the kinds that it wants, and what it tells; None unless a command."""
    if not isinstance(value, str):
        return None
    first, *words = value.split(" ")
    shape = shape_of(first, words)
    parts = None if shape is None else parts_of(shape, words)
    return None if parts is None else (first, shape, parts)


def is_command(value):
    """Whether the value is a string that is a command by its words alone."""
    return parsed(value) is not None


def is_deed(value):
    """Whether the value is a command that changes what is kept or noted."""
    told = parsed(value)
    return told is not None and (told[0] == "claim" or told[0] in DEEDS)


def words_behind_label(command):
    """The words of a claim that is noted by the command."""
    return " ".join(command.split(" ")[2:])


def claim_by(text):
    """A tuple of a noted claim's word, the kinds that it wants, and what its words behind tell."""
    word, *words = text.split(" ")
    return word, CLAIMS[word], parts_of(CLAIMS[word], words)
