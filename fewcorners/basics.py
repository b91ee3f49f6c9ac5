"""Which values are integers, counts and lists, and copies of lists."""


def is_integer(value):
    """Whether the value is an INTEGER: True and False are none."""
    return isinstance(value, int) and not isinstance(value, bool)


def is_count(value):
    """Whether the value is a COUNT: an INTEGER that is at least 0."""
    return is_integer(value) and value >= 0


def is_list(value):
    """Whether the value may be passed where a list is wanted."""
    return isinstance(value, (list, tuple))


def copied(value):
    """The value with new lists and tuples."""
    if isinstance(value, list):
        return [copied(part) for part in value]
    if isinstance(value, tuple):
        return tuple([copied(part) for part in value])
    return value
