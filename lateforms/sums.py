"""Refusing sums where expressions and changes have to be without them."""

from lateforms.errors import UnfitExpression
from lateforms.expressions import parts_of


def first_sum(expression):
    """The place of the first sum in an expression or a condition, or None."""
    for place, part in parts_of(expression):
        if isinstance(part, tuple) and part[0] == "sum":
            return place
    return None


def refuse_sum(expression, before=()):
    """Raise UnfitExpression for the first sum in an expression or a condition; indexes may stand before its place."""
    place = first_sum(expression)
    if place is not None:
        raise UnfitExpression(before + place)


def refuse_sums(change, other):
    """Raise UnfitExpression for the first sum in two changes."""
    for n, rows in enumerate((change, other)):
        for k, (_, _, expressions) in enumerate(rows):
            for f, expression in enumerate(expressions or ()):
                refuse_sum(expression, (n, k, f))


def has_sum(change):
    """Whether there is a sum in a change."""
    parts = [part for _, _, expressions in change for part in expressions or ()]
    return any([first_sum(part) is not None for part in parts])
