"""What is asked of any value at all."""

from keptbowls.errors import InvalidMany


def is_integer(value):
    """Whether the value is an INTEGER."""
    return isinstance(value, int) and not isinstance(value, bool)


def is_count(value):
    """Whether the value is a COUNT."""
    return is_integer(value) and value >= 0


def is_list(value):
    """Whether the value is a list or a tuple."""
    return isinstance(value, (list, tuple))


def check_many(many, most):
    """InvalidMany unless it is a COUNT of at most so much."""
    if not is_count(many) or many > most:
        raise InvalidMany(many)
