"""The values of fields."""

from lateforms.kinds import is_integer, is_number
from lateforms.schemas import is_link


def in_range(kind, value):
    """Whether any value is an integer of the range."""
    return is_integer(value) and kind[0] <= value <= kind[1]


def is_value(thing):
    """Whether any value can stand in some field: None or an integer."""
    return thing is None or is_integer(thing)


def are_values(thing):
    """Whether any value is a tuple of integers and Nones."""
    return isinstance(thing, tuple) and all([is_value(value) for value in thing])


def suits(kind, value, classes):
    """Whether any value can stand in a field of the kind; classes has the class of each object."""
    if not is_link(kind):
        return in_range(kind, value)
    return value is None or is_number(value) and classes.get(value) == kind


def bounded(kind, value):
    """What a field of the kind holds when it gets the value."""
    if is_link(kind):
        return value
    low, high = kind
    return min(max(value, low), high)
