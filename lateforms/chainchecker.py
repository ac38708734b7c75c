"""The checkers of chains and of closed sets."""

from lateforms.errors import InvalidPaper
from lateforms.frames import Frame, is_cell_shape, require_cell
from lateforms.lateviews import LateView


def lets_chain(late, cell, thing):
    """How many cells a chain to a cell has; InvalidPaper for any other value."""
    require_cell(late, cell)
    if not are_cells(thing) or len(thing) == 0:
        raise InvalidPaper("shape", -1)
    frame = Frame(late)
    check_chain(frame, LateView(frame), thing)
    if thing[-1] != cell:
        raise InvalidPaper("last", -1)
    return len(thing)


def lets_closed(late, cell, thing):
    """How many cells a closed set without a cell has; InvalidPaper for any other value."""
    require_cell(late, cell)
    if not are_cells(thing):
        raise InvalidPaper("shape", -1)
    frame = Frame(late)
    view = LateView(frame)
    for k in range(len(thing)):
        check_member(frame, view, thing, k)
    check_closed(frame, view, thing)
    if cell in thing:
        raise InvalidPaper("there", -1)
    return len(thing)


def are_cells(thing):
    """Whether any value is a tuple of (number, number, name)."""
    return isinstance(thing, tuple) and all([is_cell_shape(cell) for cell in thing])


def check_chain(frame, view, chain):
    """Raise the first error of a nonempty tuple of cells by shape that is no chain to its last one."""
    if not frame.has_cell(chain[0]) or not frame.is_asked(chain[0]):
        raise InvalidPaper("asked", -1)
    for k in range(len(chain) - 1):
        # a held cell reads nothing; the cells up to this one are needed, so they can be told
        if chain[k + 1] not in view.cell_reads(chain[k]):
            raise InvalidPaper("reads", k)


def leads_to_one(frame, view, chain, cells):
    """Whether a tuple of cells by shape is a chain to one of these cells."""
    if len(chain) == 0 or chain[-1] not in cells:
        return False
    try:
        check_chain(frame, view, chain)
    except InvalidPaper:
        return False
    return True


def check_member(frame, view, cells, k):
    """Raise the first error of place k of a closed set, for itself."""
    if not frame.has_cell(cells[k]) or k > 0 and not cells[k] > cells[k - 1]:
        raise InvalidPaper("cell", k)
    if not view.can_tell(cells[k]):
        raise InvalidPaper("gone", k)


def check_closed(frame, view, cells):
    """Raise the error of the first asked cell, or else of the first cell that is read, that is not among these."""
    known = {cell: True for cell in cells}
    for cell in frame.asked_cells():
        if cell not in known:
            raise InvalidPaper("asked", cell)
    for k, cell in enumerate(cells):
        for other in view.cell_reads(cell):
            if other not in known:
                raise InvalidPaper("read", (k, other))
