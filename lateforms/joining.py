"""Expressions behind paths, and two changes as one."""

from lateforms.between import Between
from lateforms.prefixes import behind
from lateforms.schemas import form_of
from lateforms.sums import refuse_sum, refuse_sums


def prefixed(expression, *path):
    """The expression, or the condition, as it is read at the end of a path of links."""
    refuse_sum(expression)
    return behind(expression, path)


def joined(schema, change, other):
    """One change that converts each store as the change and then the other one, and reads what they would read."""
    refuse_sums(change, other)
    between = Between(schema, change)
    rows = {row[0]: row for row in change}
    for cls, form, expressions in other:
        if form_of(schema, cls) is None:
            rows[cls] = (cls, form, None)
        else:
            rows[cls] = (cls, form, tuple([between.carried(cls, part) for part in expressions]))
    return tuple([rows[cls] for cls in sorted(rows)])
