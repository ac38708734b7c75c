"""Conversions write by write, so that they can be stopped behind each of their writes."""

from lateforms.errors import InvalidStep, UnknownObject
from lateforms.frames import GONE, Frame, is_cell_shape
from lateforms.kinds import is_number
from lateforms.latesteps import converted, forgotten, lives, with_entries, with_row
from lateforms.schemas import place_of
from lateforms.values import are_values, is_value


def writes_of(late, number):
    """The writes of the conversion of a living object, in order; UnknownObject for any other value."""
    if not lives(late, number):
        raise UnknownObject(number)
    if late[2][number][3] == len(late[1]):
        return ()
    after = converted(late, number)
    left = forgotten(after)
    keeps = [("keep", entry[:3], entry[3]) for entry in entries_only_in(after, late)]
    forgets = [("forget", entry[:3]) for entry in entries_only_in(after, left)]
    clears = [("clear", cell) for cell in cleared_places(after, left)]
    _, _, _, current, values = after[2][number]
    return (*keeps, ("row", number, current, values), *forgets, *clears)


def entries_only_in(late, other):
    """What one late store keeps of cells of which another one keeps nothing, ascending."""
    known = {entry[:3]: True for entry in other[3]}
    return [entry for entry in late[3] if entry[:3] not in known]


def cleared_places(late, left):
    """The places in rows at which only the late store that is left has "gone", ascending."""
    frame = Frame(late)
    return [
        (n, row[3], field)
        for n, row in enumerate(late[2])
        for k, (field, _) in enumerate(frame.form_in_moment(n, row[3]))
        if row[4][k] != GONE and left[2][n][4][k] == GONE
    ]


def stops_of(late, number):
    """The late stores behind no, one, two .. writes of the conversion of a living object."""
    writes = writes_of(late, number)
    after = late
    yield after
    for write in writes:
        after = write_done(after, write)
        yield after


def write_done(late, write):
    """The late store behind a write; InvalidStep for any other value."""
    if not is_write(write):
        raise InvalidStep(write, "write")
    word, *things = write
    action = ACTIONS[word]
    after = action(late, *things)
    if after is None:
        raise InvalidStep(write, "place")
    return after


def is_write(thing):
    """Whether any value is a write by shape."""
    if not isinstance(thing, tuple) or len(thing) < 2 or not isinstance(thing[0], str):
        return False
    if thing[0] == "keep":
        return len(thing) == 3 and is_cell_shape(thing[1]) and is_value(thing[2])
    if thing[0] == "row":
        return len(thing) == 4 and is_number(thing[1]) and is_number(thing[2]) and are_values(thing[3])
    return thing[0] in ("forget", "clear") and len(thing) == 2 and is_cell_shape(thing[1])


def keep_done(late, cell, value):
    """The late store that keeps the value of a cell, or None if it cannot be kept."""
    if not Frame(late).has_cell(cell) or cell[1] == len(late[1]):
        return None
    return with_entries(without_entry(late, cell), [(*cell, value)])


def row_done(late, number, current, values):
    """The late store in which a row has the newest version and these values, or None if it cannot have them."""
    if not lives(late, number) or current != len(late[1]):
        return None
    if len(values) != len(Frame(late).form_in_moment(number, current)):
        return None
    return with_row(late, number, current, values)


def forget_done(late, cell):
    """The late store without what it keeps of a cell, or None if it keeps nothing of it."""
    after = without_entry(late, cell)
    return None if len(after[3]) == len(late[3]) else after


def clear_done(late, cell):
    """The late store in which a value of a row is gone, or None if no row has this place."""
    number, moment, field = cell
    if number >= len(late[2]) or late[2][number][3] != moment:
        return None
    k = place_of(Frame(late).form_in_moment(number, moment), field)
    if k is None:
        return None
    values = late[2][number][4]
    return with_row(late, number, moment, values[:k] + (GONE,) + values[k + 1:])


def without_entry(late, cell):
    """The late store that keeps nothing of a cell."""
    schema, changes, rows, kept, pins = late
    return schema, changes, rows, tuple([entry for entry in kept if entry[:3] != cell]), pins


ACTIONS = {"keep": keep_done, "row": row_done, "forget": forget_done, "clear": clear_done}
