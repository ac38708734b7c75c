"""The words with which expressions and conditions begin, and what stands behind each of them.

Behind a word stand parts ("number", "condition", "link"), and what is no part:
a path, an integer or a name.
"""

DUES = ("number", "condition", "link")

NUMBERS = {
    "get": ("path", "integer"),
    "+": ("number", "number"),
    "-": ("number", "number"),
    "*": ("number", "number"),
    "least": ("number", "number"),
    "most": ("number", "number"),
    "if": ("condition", "number", "number"),
    "sum": ("name", "name", "name"),
}

CONDITIONS = {
    "<": ("number", "number"),
    "=": ("number", "number"),
    "none": ("path",),
    "not": ("condition",),
    "and": ("condition", "condition"),
}

LINKS = {
    "self": (),
    "to": ("path",),
    "if": ("condition", "link", "link"),
}


def slots_of(due, word):
    """What stands behind the word, any value, where this is due; None if the word cannot stand there."""
    if not isinstance(word, str):
        return None
    if due == "number":
        return NUMBERS.get(word)
    if due == "condition":
        return CONDITIONS.get(word)
    return LINKS.get(word)


def slots_behind(word):
    """What stands behind a word, wherever it stands; of "if" the parts may be links, too."""
    for due in DUES:
        slots = slots_of(due, word)
        if slots is not None:
            return slots
    return ()


def part_indexes(part):
    """The indexes of what stands directly in a part and is a part itself."""
    if not isinstance(part, tuple):
        return []
    slots = slots_behind(part[0])
    return [k + 1 for k, slot in enumerate(slots) if slot in DUES]
