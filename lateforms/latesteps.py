"""Steps on late stores: to make, write and drop objects, to change, pin, release, convert and forget."""

from lateforms.changes import lets_change
from lateforms.errors import InvalidStep, UnknownObject
from lateforms.frames import GONE, Frame
from lateforms.kinds import is_integer
from lateforms.latecells import needed, plain_store, schema_at
from lateforms.lateviews import LateView
from lateforms.plainsteps import dropped, made, unlinked, written
from lateforms.schemas import form_of, place_of


def late_made(late, cls, *values):
    """The late store after an object of the class is made."""
    made(plain_store(late), cls, *values)
    schema, changes, rows, kept, pins = late
    latest = len(changes)
    return schema, changes, (*rows, (cls, latest, None, latest, values)), kept, pins


def late_written(late, number, field, value):
    """The late store after an object is converted, if it is pending, and a field of it gets the value."""
    written(plain_store(late), number, field, value)
    after = converted(late, number)
    cls, _, _, current, values = after[2][number]
    j = place_of(form_of(schema_at(after, current), cls), field)
    return with_row(after, number, current, values[:j] + (value,) + values[j + 1:])


def late_dropped(late, number):
    """The late store after an object is dropped; links to it in rows of the newest version become None."""
    dropped(plain_store(late), number)
    schema, changes, rows, kept, pins = late
    latest = len(changes)
    forms = {cls: form for cls, form in schema_at(late, latest)}
    after = []
    for n, (cls, born, end, current, values) in enumerate(rows):
        left = unlinked(forms[cls], values, number) if current == latest else values
        after.append((cls, born, latest if n == number else end, current, left))
    return schema, changes, tuple(after), kept, pins


def late_changed(late, change):
    """The late store with one more change."""
    schema, changes, rows, kept, pins = late
    lets_change(schema_at(late, len(changes)), change)
    return schema, (*changes, change), rows, kept, pins


def late_pinned(late):
    """The late store with the version pinned that was the newest, and an empty change behind it."""
    schema, changes, rows, kept, pins = late
    return schema, (*changes, ()), rows, kept, (*pins, len(changes))


def late_released(late, version):
    """The late store in which a version is no longer pinned."""
    schema, changes, rows, kept, pins = late
    if not is_integer(version) or version not in pins:
        raise InvalidStep(("release", version), "pin")
    return schema, changes, rows, kept, tuple([pin for pin in pins if pin != version])


def converted(late, *numbers):
    """The late store in which the pending ones of these objects are converted, in this order."""
    for number in numbers:
        if not lives(late, number):
            raise UnknownObject(number)
    after = late
    for number in numbers:
        if after[2][number][3] < len(after[1]):
            after = converted_one(after, number)
    return after


def lives(late, number):
    """Whether any value is the number of a living object."""
    return is_integer(number) and 0 <= number < len(late[2]) and late[2][number][2] is None


def pending_numbers(late):
    """The numbers of the pending objects, ascending."""
    return [number for number, row in enumerate(late[2]) if row[2] is None and row[3] < len(late[1])]


def converted_one(late, number):
    """The late store in which a pending object is converted."""
    frame = Frame(late)
    view = LateView(frame)
    latest = frame.newest()
    values = tuple([view.cell_told(cell) for cell in frame.cells_in(number, latest)])
    after = with_row(late, number, latest, values)
    more = entries_below(late, frame, view, number)
    # what is needed shows when all is kept, as the values are known then
    due = needed(with_entries(after, more))
    return with_entries(after, [entry for entry in more if entry[:3] in due])


def entries_below(late, frame, view, number):
    """The entries that kept does not have of the cells of an object below the newest version, if they can be told."""
    known = [entry[:3] for entry in late[3]]
    cells = [cell for cell in frame.cells_of_object(number) if cell[1] < frame.newest() and cell not in known]
    return [(*cell, view.cell_told(cell)) for cell in cells if view.can_tell(cell)]


def with_row(late, number, current, values):
    """The late store with an object's row in a version, with these values."""
    schema, changes, rows, kept, pins = late
    cls, born, end, _, _ = rows[number]
    row = (cls, born, end, current, values)
    return schema, changes, rows[:number] + (row,) + rows[number + 1:], kept, pins


def with_entries(late, more):
    """The late store that keeps these entries, too."""
    schema, changes, rows, kept, pins = late
    return schema, changes, rows, tuple(sorted([*kept, *more])), pins


def forgotten(late):
    """The late store without all that is prepared or not needed."""
    schema, changes, rows, kept, pins = late
    frame = Frame(late)
    due = {cell: True for cell in needed(late)}
    left = [entry for entry in kept if entry[:3] in due and not frame.is_prepared(entry[:3])]
    after = []
    for n, (cls, born, end, current, values) in enumerate(rows):
        cells = [(n, current, field) for field, _ in frame.form_in_moment(n, current)]
        rest = tuple([value if cell in due else GONE for cell, value in zip(cells, values)])
        after.append((cls, born, end, current, rest))
    return schema, changes, tuple(after), tuple(left), pins
