"""The checker of papers that tell a cell."""

from lateforms.errors import InvalidPaper
from lateforms.frames import GONE, Frame, is_cell_shape, require_cell
from lateforms.lateviews import Moment
from lateforms.values import is_value


class Telling:
    """The rows of a told paper that were accepted, for the row behind them."""

    def __init__(self, k, values):
        self._k = k
        self._values = values

    def cell_told(self, cell):
        """The value that a row before has for the cell."""
        if cell not in self._values:
            raise InvalidPaper("read", (self._k, cell))
        return self._values[cell]


def lets_told(late, cell, thing):
    """The value of a cell that a told paper tells; InvalidPaper for any other value."""
    require_cell(late, cell)
    if not has_shape(thing):
        raise InvalidPaper("shape", -1)
    frame = Frame(late)
    values = {}
    for k, (other, value) in enumerate(thing):
        check_row(frame, values, k, other, value)
        values[other] = value
    if thing[-1][0] != cell:
        raise InvalidPaper("last", -1)
    return values[cell]


def has_shape(thing):
    """Whether any value is a nonempty tuple of ((number, number, name), integer or None)."""
    return isinstance(thing, tuple) and len(thing) > 0 and all([is_row(row) for row in thing])


def is_row(row):
    """Whether any value is ((number, number, name), integer or None)."""
    return isinstance(row, tuple) and len(row) == 2 and is_cell_shape(row[0]) and is_value(row[1])


def check_row(frame, values, k, cell, value):
    """Raise the first error of row k behind the rows with these values."""
    if not frame.has_cell(cell) or cell in values:
        raise InvalidPaper("cell", k)
    if frame.is_computed(cell):
        before = Moment(frame, cell[1] - 1, Telling(k, values))
        if frame.computed_value(before, cell) != value:
            raise InvalidPaper("result", k)
        return
    held = frame.held_value(cell)
    if held == GONE:
        raise InvalidPaper("gone", k)
    if held != value:
        raise InvalidPaper("value", k)
