"""The cells of late stores: their values, what they read, which are asked and which are needed."""

from lateforms.changes import schema_after
from lateforms.errors import GoneCell
from lateforms.frames import Frame
from lateforms.lateviews import LateView


def fresh_late(schema):
    """The late store of the schema without changes and objects."""
    return schema, (), (), (), ()


def schema_at(late, version):
    """The schema of a version."""
    schema = late[0]
    for change in late[1][:version]:
        schema = schema_after(schema, change)
    return schema


def newest_schema(late):
    """The schema of the newest version."""
    return schema_at(late, len(late[1]))


def cells_of(late):
    """All cells, ascending."""
    frame = Frame(late)
    for number in range(len(late[2])):
        for cell in frame.cells_of_object(number):
            yield cell


def cell_value(late, cell):
    """The value of a cell; GoneCell for any other value, and for a cell that is gone or cannot be computed."""
    return view_on(late, cell).cell_told(cell)


def read_cells(late, cell):
    """The cells that a cell reads where it is computed, in order; GoneCell as cell_value."""
    return view_on(late, cell).cell_reads(cell)


def view_on(late, cell):
    """A view of the late store, in which any value has to be a cell that can be told."""
    frame = Frame(late)
    view = LateView(frame)
    if not frame.has_cell(cell) or not view.can_tell(cell):
        raise GoneCell(cell)
    return view


def asked(late):
    """The asked cells, ascending."""
    return tuple(Frame(late).asked_cells())


def needed(late):
    """The needed cells, ascending."""
    return tuple(LateView(Frame(late)).needed_cells())


def room(late):
    """How many needed cells are not computed."""
    frame = Frame(late)
    return len([cell for cell in LateView(frame).needed_cells() if not frame.is_computed(cell)])


def plain_store(late):
    """The plain store of the living objects with their values now."""
    frame = Frame(late)
    view = LateView(frame)
    latest = frame.newest()
    rows = [
        (number, row[0], tuple([view.cell_told(cell) for cell in frame.cells_in(number, latest)]))
        for number, row in enumerate(late[2]) if row[2] is None
    ]
    return frame.schema_in(latest), len(late[2]), tuple(rows)
