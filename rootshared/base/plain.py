"""Plain values: integers, indices, tuples of indices, rows of things, and numbers of changes to take back."""

from rootshared.errors import InvalidNumber, NothingToUndo

# The least positive integer that has more than sixty digits.
TOO_LONG = 10 ** 60


def is_plain_integer(value):
    """Whether the value is an integer of at most sixty digits, which True and False are not."""
    if isinstance(value, bool) or not isinstance(value, int):
        return False
    return -TOO_LONG < value < TOO_LONG


def is_between(value, least, most):
    """Whether the value is an integer from the least to the most."""
    return is_plain_integer(value) and least <= value <= most


def is_index(value, many):
    """Whether the value is an index of so many things."""
    return is_between(value, 0, many - 1)


def is_index_tuple(value, many):
    """Whether the value is a tuple of indices of so many things, in whatever order."""
    return isinstance(value, tuple) and all([is_index(index, many) for index in value])


def is_ascending(value, many):
    """Whether the value is an ascending tuple of indices of so many things."""
    return is_index_tuple(value, many) and all([low < high for low, high in zip(value, value[1:])])


def is_order(value, many):
    """Whether the value is a tuple of all indices of so many things, each once."""
    return is_index_tuple(value, many) and sorted(value) == list(range(many))


def rows_over(length, things):
    """All tuples of so many of the things, in the order in which the things stand."""
    rows = [()]
    for _ in range(length):
        rows = [(*row, thing) for row in rows for thing in things]
    return rows


def check_between(value, least, most):
    """Refuse what is no integer from the least to the most."""
    if not is_between(value, least, most):
        raise InvalidNumber(value)


def check_index(value, many):
    """Refuse what is no index of so many things."""
    if not is_index(value, many):
        raise InvalidNumber(value)


def check_undo(many, there):
    """Refuse to take back what is no number of changes, or more of them than are there."""
    if not is_plain_integer(many) or many < 0:
        raise InvalidNumber(many)
    if many > there:
        raise NothingToUndo(many)
