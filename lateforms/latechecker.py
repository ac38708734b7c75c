"""The checker of late stores."""

from lateforms.changes import is_change
from lateforms.errors import InvalidPaper
from lateforms.frames import GONE, Frame, is_cell_shape
from lateforms.kinds import is_name, is_number, is_schema
from lateforms.latecells import schema_at
from lateforms.lateviews import LateView
from lateforms.schemas import field_kind, form_of, is_link
from lateforms.values import in_range, is_value


def lets_late(thing):
    """How many objects were ever made, and how many cells are held; InvalidPaper unless it is a sound late store."""
    if not has_shape(thing):
        raise InvalidPaper("shape", -1)
    _, changes, rows, kept, pins = thing
    for j, change in enumerate(changes):
        if not is_change(schema_at(thing, j), change):
            raise InvalidPaper("change", j)
    frame = Frame(thing)
    for n in range(len(rows)):
        check_row(frame, rows, n)
    for k in range(len(kept)):
        check_kept(frame, rows, kept, k)
    for k, pin in enumerate(pins):
        if not pin < frame.newest() or k > 0 and not pin > pins[k - 1]:
            raise InvalidPaper("pin", k)
    check_told(frame, kept)
    return len(rows), len(held_cells(frame, len(rows)))


def has_shape(thing):
    """Whether any value is (schema, tuple, tuple of rows, tuple of kept entries, tuple of numbers)."""
    if not isinstance(thing, tuple) or len(thing) != 5:
        return False
    if not is_schema(thing[0]) or not all([isinstance(part, tuple) for part in thing]):
        return False
    if not all([is_row(row) for row in thing[2]]) or not all([is_entry(entry) for entry in thing[3]]):
        return False
    return all([is_number(pin) for pin in thing[4]])


def is_row(row):
    """Whether any value is (name, number, number or None, number, tuple of values)."""
    if not isinstance(row, tuple) or len(row) != 5:
        return False
    cls, born, end, current, values = row
    if not is_name(cls) or not is_number(born) or not (end is None or is_number(end)):
        return False
    return is_number(current) and isinstance(values, tuple) and all([is_row_value(value) for value in values])


def is_row_value(value):
    """Whether any value is an integer, None or "gone"."""
    return is_value(value) or isinstance(value, str) and value == GONE


def is_entry(entry):
    """Whether any value is (number, number, name, integer or None)."""
    if not isinstance(entry, tuple) or len(entry) != 4:
        return False
    return is_cell_shape(entry[:3]) and is_value(entry[3])


def check_row(frame, rows, n):
    """Raise the first error of row n."""
    cls, born, end, current, values = rows[n]
    latest = frame.newest()
    if born > latest or form_of(frame.schema_in(born), cls) is None:
        raise InvalidPaper("class", n)
    if end is not None and not born <= end <= latest:
        raise InvalidPaper("dropped", n)
    if not born <= current <= (latest if end is None else end):
        raise InvalidPaper("version", n)
    form = frame.form_in_moment(n, current)
    if len(values) != len(form):
        raise InvalidPaper("many", n)
    for i, (_, kind) in enumerate(form):
        if values[i] != GONE and not is_fit(rows, kind, values[i], current):
            raise InvalidPaper("value", (n, i))


def is_fit(rows, kind, value, moment):
    """Whether an integer or None fits a field of the kind in a version."""
    if not is_link(kind):
        return in_range(kind, value)
    if value is None:
        return True
    if not 0 <= value < len(rows):
        return False
    cls, born, end, _, _ = rows[value]
    return cls == kind and born <= moment and (end is None or moment < end)


def check_kept(frame, rows, kept, k):
    """Raise the first error of entry k of kept, what is prepared aside."""
    number, moment, field, value = kept[k]
    cell = (number, moment, field)
    if not frame.has_cell(cell) or moment == frame.newest() or k > 0 and not cell > kept[k - 1][:3]:
        raise InvalidPaper("kept", k)
    kind = field_kind(frame.schema_in(moment), rows[number][0], field)
    if not is_fit(rows, kind, value, moment):
        raise InvalidPaper("fits", k)


def check_told(frame, kept):
    """Raise the error of the least needed cell that is gone, or of the first prepared entry that is not right."""
    view = LateView(frame)
    for cell in view.needed_cells():
        if not frame.is_computed(cell) and frame.held_value(cell) == GONE:
            raise InvalidPaper("gone", cell)
    for k, entry in enumerate(kept):
        cell = entry[:3]
        if frame.is_prepared(cell) and not (view.can_tell(cell) and view.cell_told(cell) == entry[3]):
            raise InvalidPaper("prepared", k)


def held_cells(frame, many):
    """The cells that are held."""
    cells = [cell for n in range(many) for cell in frame.cells_of_object(n)]
    return [cell for cell in cells if not frame.is_computed(cell) and frame.held_value(cell) != GONE]
