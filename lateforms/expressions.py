"""The parts of expressions and conditions, and the checker of expressions."""

from lateforms.errors import UnfitExpression
from lateforms.grammar import DUES, part_indexes, slots_of
from lateforms.kinds import is_integer
from lateforms.schemas import field_kind, is_link, is_number_field, path_kind


def parts_of(expression):
    """The pairs (place, part) of an expression or a condition, in preorder."""
    waiting = [((), expression)]
    while waiting:
        place, part = waiting.pop()
        yield (place, part)
        inner = [(place + (k,), part[k]) for k in part_indexes(part)]
        waiting.extend(inner[::-1])


def fits(schema, cls, kind, thing):
    """Whether any value fits the kind at the class."""
    try:
        lets_expression(schema, cls, kind, thing)
    except UnfitExpression:
        return False
    return True


def lets_expression(schema, cls, kind, thing):
    """The number of parts of an expression that fits the kind at the class; UnfitExpression for any other value."""
    count = 0
    waiting = [((), due_for(kind), thing)]
    while waiting:
        place, due, part = waiting.pop()
        if not is_right(schema, cls, kind, due, part):
            raise UnfitExpression(place)
        count = count + 1
        waiting.extend(inner_dues(place, due, part)[::-1])
    return count


def due_for(kind):
    """What is due for the whole: a number, a link or a condition."""
    if is_number_field(kind):
        return "number"
    return "condition" if kind == "condition" else "link"


def inner_dues(place, due, part):
    """The triples (place, due, part) of what stands directly in a part that is right."""
    if not isinstance(part, tuple):
        return []
    slots = slots_of(due, part[0])
    return [(place + (k + 1,), slot, part[k + 1]) for k, slot in enumerate(slots) if slot in DUES]


def is_right(schema, cls, kind, due, part):
    """Whether any value is right where this is due, its own parts aside."""
    if due == "number" and is_integer(part) or due == "link" and part is None:
        return True
    if not isinstance(part, tuple) or len(part) == 0:
        return False
    slots = slots_of(due, part[0])
    if slots is None or len(part) != len(slots) + 1:
        return False
    return leads_right(schema, cls, kind, part)


def leads_right(schema, cls, kind, part):
    """Whether what a part says of fields and classes is right."""
    word = part[0]
    if word == "get":
        return is_number_field(path_kind(schema, cls, part[1])) and is_integer(part[2])
    if word == "none":
        return is_link(path_kind(schema, cls, part[1]))
    if word == "to":
        return path_kind(schema, cls, part[1]) == kind
    if word == "self":
        return cls == kind
    if word == "sum":
        _, source, link, field = part
        return field_kind(schema, source, link) == cls and is_number_field(field_kind(schema, source, field))
    return True
