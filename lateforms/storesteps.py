"""The steps of a store: what stands behind the word of each, and whether any value is one by kind."""

from lateforms.kinds import is_name, is_number
from lateforms.values import are_values, is_value

SLOTS = {
    "make": ("name", "values"),
    "write": ("number", "name", "value"),
    "drop": ("number",),
    "change": ("change",),
    "keep": ("name",),
    "release": ("name",),
    "touch": ("numbers",),
    "sweep": ("many",),
    "pace": ("number",),
    "close": (),
}


def is_step(thing):
    """Whether any value is a step by kind."""
    if not isinstance(thing, tuple) or len(thing) == 0 or not isinstance(thing[0], str):
        return False
    slots = SLOTS.get(thing[0])
    if slots is None or len(thing) != len(slots) + 1:
        return False
    return all([suits_slot(slot, entry) for slot, entry in zip(slots, thing[1:])])


def suits_slot(slot, entry):
    """Whether any value can stand where the slot is."""
    if slot == "name":
        return is_name(entry)
    if slot == "number":
        return is_number(entry)
    if slot == "many":
        return is_number(entry) and entry > 0
    if slot == "value":
        return is_value(entry)
    if slot == "values":
        return are_values(entry)
    if slot == "numbers":
        return are_distinct_numbers(entry)
    # whether something is a change is asked only when the step is done
    return True


def are_distinct_numbers(thing):
    """Whether any value is a nonempty tuple of distinct numbers."""
    if not isinstance(thing, tuple) or len(thing) == 0:
        return False
    return all([is_number(number) for number in thing]) and len(set(list(thing))) == len(thing)
