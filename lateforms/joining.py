"""Expressions behind paths, and two changes as one."""

from lateforms.between import Between
from lateforms.errors import UnfitExpression
from lateforms.prefixes import behind, first_sum
from lateforms.schemas import form_of


def prefixed(expression, *path):
    """The expression, or the condition, as it is read at the end of a path of links."""
    place = first_sum(expression)
    if place is not None:
        raise UnfitExpression(place)
    return behind(expression, path)


def joined(schema, change, other):
    """One change that converts each store as the change and then the other one, and reads what they would read."""
    refuse_sums(0, change)
    refuse_sums(1, other)
    between = Between(schema, change)
    rows = {row[0]: row for row in change}
    for cls, form, expressions in other:
        if form_of(schema, cls) is None:
            rows[cls] = (cls, form, None)
        else:
            rows[cls] = (cls, form, tuple([between.carried(cls, part) for part in expressions]))
    return tuple([rows[cls] for cls in sorted(rows)])


def refuse_sums(n, change):
    """Raise UnfitExpression for the first sum in change n."""
    for k, (_, _, expressions) in enumerate(change):
        for f, expression in enumerate(expressions or ()):
            place = first_sum(expression)
            if place is not None:
                raise UnfitExpression((n, k, f) + place)
