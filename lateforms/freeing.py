"""Old fields: their cells, and the fewest objects that have to be converted to free one."""

from lateforms.errors import InvalidStep
from lateforms.frames import Frame
from lateforms.freesearch import FreeSearch
from lateforms.kinds import is_number
from lateforms.latecells import needed, schema_at
from lateforms.schemas import field_kind


def old_cells(late, cls, version, field):
    """The cells of an old field, ascending; InvalidStep for any other values."""
    if not is_old_field(late, cls, version, field):
        raise InvalidStep(("free", cls, version, field), "field")
    frame = Frame(late)
    numbers = [number for number, row in enumerate(late[2]) if row[0] == cls]
    cells = [cell for number in numbers for cell in frame.cells_of_object(number)]
    return tuple([cell for cell in cells if cell[1] <= version and cell[2] == field])


def is_old_field(late, cls, version, field):
    """Whether any values are a class, a version below the newest and a field of the class in it."""
    if not is_number(version) or not version < len(late[1]):
        return False
    return field_kind(schema_at(late, version), cls, field) is not None


def old_needed(late, cls, version, field):
    """The cells of an old field that are needed, ascending."""
    due = {cell: True for cell in needed(late)}
    return tuple([cell for cell in old_cells(late, cls, version, field) if cell in due])


def to_free(late, cls, version, field):
    """The fewest pending objects whose conversion frees an old field, ascending, or None if none suffice."""
    return FreeSearch(late, old_cells(late, cls, version, field)).fewest()
