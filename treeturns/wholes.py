"""Whole numbers: integers of any sign, but no Booleans."""

from treeturns.errors import InvalidNumber


def is_whole(value):
    """Whether a value is a whole number."""
    return isinstance(value, int) and not isinstance(value, bool)


def check_whole(value):
    """Raise InvalidNumber for anything but a whole number."""
    if not is_whole(value):
        raise InvalidNumber(value)
