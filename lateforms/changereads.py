"""Which fields the expressions of a change read, and which ones are not needed for it."""

from lateforms.expressions import parts_of
from lateforms.schemas import field_kind


def read_fields(schema, change):
    """The pairs (class, field) that stand in an expression of the change, ascending."""
    found = {}
    for cls, _, expressions in change:
        for expression in expressions or ():
            for _, part in parts_of(expression):
                for pair in fields_in(schema, cls, part):
                    found[pair] = True
    return tuple(sorted(found))


def fields_in(schema, cls, part):
    """The pairs (class, field) that stand in a part, its own parts aside."""
    if not isinstance(part, tuple):
        return []
    if part[0] in ("get", "none", "to"):
        return fields_on(schema, cls, part[1])
    if part[0] == "sum":
        return [(part[1], part[2]), (part[1], part[3])]
    return []


def fields_on(schema, cls, path):
    """The pairs (class, field) on a path."""
    pairs = []
    place = cls
    for field in path:
        pairs.append((place, field))
        place = field_kind(schema, place, field)
    return pairs


def unread_fields(schema, change):
    """The pairs (class, field) of the converted classes that the change does not read, ascending."""
    known = read_fields(schema, change)
    converted = [cls for cls, _, expressions in change if expressions is not None]
    return tuple([
        (cls, field)
        for cls, form in schema if cls in converted
        for field, _ in form if (cls, field) not in known
    ])
