"""Computing the cells of a late store, version by version."""

from lateforms.errors import GoneCell
from lateforms.frames import GONE


class Moment:
    """The objects of a version as evaluation looks at them; the source tells the cells that are read."""

    def __init__(self, frame, moment, source):
        self._frame = frame
        self._moment = moment
        self._source = source
        self._seen = {}

    def told(self, number, field):
        """The value of a field of an object; this is a read."""
        cell = (number, self._moment, field)
        self._seen[cell] = True
        return self._source.cell_told(cell)

    def members(self, cls):
        """The numbers of the objects of a class, ascending."""
        return self._frame.members_in(self._moment, cls)

    def reads(self):
        """The cells that were read, in order, each once."""
        return tuple(list(self._seen))


class LateView:
    """All cells of a late store, with their values and their reads."""

    def __init__(self, frame):
        self._frame = frame
        self._values = {}
        self._reads = {}
        # a computed cell reads cells of the version before: they are known when it is its turn
        for moment in range(frame.newest() + 1):
            for cell in frame.cells_in_moment(moment):
                self.look_at(cell)

    def cell_told(self, cell):
        """The value of a cell; GoneCell if it is gone, or reads such a one."""
        if cell not in self._values:
            raise GoneCell(cell)
        return self._values[cell]

    def cell_reads(self, cell):
        """What a cell reads where it is computed; nothing behind the first cell that is gone or cannot be computed."""
        return self._reads[cell]

    def can_tell(self, cell):
        """Whether a cell is neither gone nor reads such a one."""
        return cell in self._values

    def look_at(self, cell):
        """Find out the value of a cell, if it has one, and its reads."""
        if self._frame.is_computed(cell):
            self.compute(cell)
            return
        self._reads[cell] = ()
        value = self._frame.held_value(cell)
        if value != GONE:
            self._values[cell] = value

    def compute(self, cell):
        """Find out the value of a computed cell, and its reads."""
        before = Moment(self._frame, cell[1] - 1, self)
        try:
            self._values[cell] = self._frame.computed_value(before, cell)
        except GoneCell:
            # what cannot be computed has no value; its reads tell why
            pass
        self._reads[cell] = before.reads()

    def needed_cells(self):
        """The asked cells and all that they read, and what that reads, and so on, ascending."""
        found = {}
        waiting = self._frame.asked_cells()
        while waiting:
            cell = waiting.pop()
            if cell not in found:
                found[cell] = True
                waiting.extend(self.cell_reads(cell))
        return sorted(found)
