"""Written forms, read."""
from fewcorners.errors import InvalidText
from fewcorners.numerals import counts_of, numbers_of_words
from fewcorners.texts import is_of_sort


def words_behind(line, first):
    """The words of the line behind its first one, a list; None if the first one is another."""
    words = line.split(" ")
    return words[1:] if words[0] == first else None


def numbers_in(line, first):
    """The NUMBERS of a line that has this first word; None if it has something else."""
    words = words_behind(line, first)
    return None if words is None else numbers_of_words(words)


def lone_value(line):
    """A tuple of the sort and the value that are written in this one line; None if nothing is."""
    sort, *words = line.split(" ")
    if sort == "wheel":
        value = [numbers_of_words(word.split(",")) for word in words]
    elif sort == "numbers":
        value = numbers_of_words(words)
    elif sort == "lot":
        value = counts_of(words)
    elif sort == "word":
        counts = counts_of(words)
        value = (counts[0], counts[1:]) if counts else None
    else:
        return None
    return (sort, value) if is_of_sort(sort, value) else None


def is_point_behind(ahead, line):
    """Whether the line is that of a point behind these lines of written points."""
    numbers = numbers_in(line, "at")
    if numbers is None or not 1 <= len(numbers) <= 8 or len(ahead) > 9:
        return False
    return len(ahead) == 1 or len(numbers) == len(numbers_in(ahead[1], "at"))


def is_first(line):
    """Whether some written form has this first line."""
    numbers = numbers_in(line, "form")
    return line == "points" or lone_value(line) is not None or numbers is not None and len(numbers) == 1


def is_next(ahead, line):
    """Whether some written form has this line behind these lines, which it has ahead."""
    if len(ahead) == 0:
        return is_first(line)
    if ahead[0] == "points":
        return is_point_behind(ahead, line)
    if len(ahead) == 1 and words_behind(ahead[0], "form") is not None:
        numbers = numbers_in(line, "normal")
        return numbers is not None and 1 <= len(numbers) <= 8
    return False


def value_of(lines):
    """A tuple of the sort and the value that has these lines; None if some lack."""
    if len(lines) == 1:
        return lone_value(lines[0])
    if len(lines) == 2 and lines[0] != "points":
        return "form", (numbers_in(lines[1], "normal"), numbers_in(lines[0], "form")[0])
    points = [numbers_in(line, "at") for line in lines[1:]]
    return ("points", points) if len(points) >= 2 else None


def read(text):
    """A tuple of the sort and the value that has this written form."""
    if not isinstance(text, str):
        raise InvalidText(0)
    *lines, rest = text.split("\n")
    for at, line in enumerate(lines):
        if not is_next(lines[:at], line):
            raise InvalidText(at + 1)
    found = value_of(lines)
    # What stands behind the last line feed is wrong, whatever it is; without it a line lacks.
    if rest != "" or found is None:
        raise InvalidText(len(lines) + 1)
    return found
