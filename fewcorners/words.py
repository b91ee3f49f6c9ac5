"""The words of wheels and of bodies."""
from fewcorners.basics import is_count, is_list
from fewcorners.bodies import check_body
from fewcorners.errors import InvalidWord
from fewcorners.rounds import arrangements, merged_round, merging_at
from fewcorners.wheels import check_wheel, peaks


def lengths(lots):
    """How long each of the lots is."""
    return [len(lot) for lot in lots]


def runs(wheel):
    """The lots of positions that belong to the numbers of the wheel's word."""
    check_wheel(wheel)
    return min(arrangements(merged_round(wheel)), key=lengths)


def word(wheel):
    """The word of the wheel."""
    return len(peaks(wheel)), lengths(runs(wheel))


def word_of(body):
    """The word of the body."""
    check_body(body)
    if body.excess == 0:
        return body.many, []
    return word(body.wheel())


def lots_by_word(body):
    """The lots of the body's corners that its word counts: the peaks, then the runs."""
    if body.excess == 0:
        return [list(range(body.many))]
    wheel = body.wheel()
    return [peaks(wheel)] + runs(wheel)


def is_round(numbers):
    """Whether the numbers are those of the places of a round, from its least list on."""
    half = len(numbers) // 2
    if len(numbers) != 2 * half or half < 2:
        return False
    if not all([numbers[at] + numbers[at + half] > 0 for at in range(half)]) or merging_at(numbers) is not None:
        return False
    twice = numbers + numbers
    if not all([sum(twice[at:at + half - 1]) >= 2 for at in range(len(numbers))]):
        return False
    return numbers == min(arrangements(numbers))


def is_word(value):
    """Whether the value is a word."""
    if not isinstance(value, tuple) or len(value) != 2 or not is_list(value[1]):
        return False
    if not all([is_count(number) for number in [value[0], *value[1]]]) or value[0] + sum(value[1]) > 9:
        return False
    numbers = list(value[1])
    if len(numbers) == 0:
        return value[0] >= 2
    if len(numbers) == 2:
        return 2 <= numbers[0] <= numbers[1]
    return is_round(numbers)


def check_word(value):
    """InvalidWord unless a word."""
    if not is_word(value):
        raise InvalidWord(value)


def keeping(word):
    """How many turns and mirrors keep the list of the word."""
    check_word(word)
    numbers = list(word[1])
    return arrangements(numbers).count(numbers)
