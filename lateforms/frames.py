"""What a late store says without computing: versions, cells, and which of them are held."""

from lateforms.changes import schema_after
from lateforms.errors import GoneCell
from lateforms.evaluation import evaluated
from lateforms.kinds import is_name, is_number
from lateforms.schemas import form_of, is_link, place_of
from lateforms.values import bounded

GONE = "gone"


class Frame:
    """A late store, its schemas and what it keeps, ready to be looked at."""

    def __init__(self, late):
        schema, changes, rows, kept, pins = late
        self._schemas = [schema]
        for change in changes:
            self._schemas.append(schema_after(self._schemas[-1], change))
        self._steps = [{cls: expressions for cls, _, expressions in change} for change in changes]
        self._rows = rows
        self._kept = {entry[:3]: entry[3] for entry in kept}
        self._pins = pins

    def newest(self):
        """The newest version."""
        return len(self._steps)

    def schema_in(self, moment):
        """The schema of a version."""
        return self._schemas[moment]

    def form_in_moment(self, number, moment):
        """The form that the class of an object has in a version."""
        return form_of(self._schemas[moment], self._rows[number][0])

    def is_there(self, number, moment):
        """Whether an object was made in the version or before, and not dropped in it or before."""
        _, born, end, _, _ = self._rows[number]
        return born <= moment and (end is None or moment < end)

    def is_living(self, number):
        """Whether an object was not dropped."""
        return self._rows[number][2] is None

    def is_pending(self, number):
        """Whether any number is that of an object that lives and has its row in an older version."""
        return number < len(self._rows) and self.is_living(number) and self._rows[number][3] < self.newest()

    def members_in(self, moment, cls):
        """The numbers of the objects of a class that have cells in the version, ascending."""
        return [n for n, row in enumerate(self._rows) if row[0] == cls and self.is_there(n, moment)]

    def has_cell(self, thing):
        """Whether any value is a cell."""
        if not is_cell_shape(thing):
            return False
        number, moment, field = thing
        if number >= len(self._rows) or moment > self.newest() or not self.is_there(number, moment):
            return False
        return place_of(self.form_in_moment(number, moment), field) is not None

    def cells_in(self, number, moment):
        """The cells of an object in a version in which it is there, ascending."""
        return [(number, moment, field) for field, _ in self.form_in_moment(number, moment)]

    def cells_in_moment(self, moment):
        """The cells of a version, ascending."""
        there = [number for number in range(len(self._rows)) if self.is_there(number, moment)]
        return [cell for number in there for cell in self.cells_in(number, moment)]

    def cells_of_object(self, number):
        """The cells of an object, ascending."""
        _, born, end, _, _ = self._rows[number]
        after = self.newest() + 1 if end is None else end
        return [cell for moment in range(born, after) for cell in self.cells_in(number, moment)]

    def asked_cells(self):
        """The cells of the newest version and of those in pins, ascending."""
        cells = [cell for n in range(len(self._rows)) for cell in self.cells_of_object(n)]
        return [cell for cell in cells if self.is_asked(cell)]

    def is_asked(self, cell):
        """Whether a cell is in the newest version or in one of those in pins."""
        return cell[1] == self.newest() or cell[1] in self._pins

    def is_computed(self, cell):
        """Whether a cell is above the version of its row."""
        return cell[1] > self._rows[cell[0]][3]

    def is_prepared(self, cell):
        """Whether what kept has of a cell counts for nothing: it is of the version of its row or above."""
        return cell[1] >= self._rows[cell[0]][3]

    def held_value(self, cell):
        """The value of a cell that is not computed, or "gone"."""
        number, moment, field = cell
        _, _, _, current, values = self._rows[number]
        if moment == current:
            return values[place_of(self.form_in_moment(number, moment), field)]
        return self._kept.get(cell, GONE)

    def computed_value(self, view, cell):
        """The value of a cell that is computed; the view tells the version before."""
        number, moment, field = cell
        form = self.form_in_moment(number, moment)
        place = place_of(form, field)
        kind = form[place][1]
        # an object of a class that is new in a version is not older, so it has expressions here, or is not converted
        expressions = self._steps[moment - 1].get(self._rows[number][0])
        if expressions is None:
            value = view.told(number, field)
        else:
            value = bounded(kind, evaluated(view, number, expressions[place]))
        if is_link(kind) and value is not None and not self.is_there(value, moment):
            return None
        return value


def require_cell(late, thing):
    """Raise GoneCell if any value is not a cell of the late store."""
    if not Frame(late).has_cell(thing):
        raise GoneCell(thing)


def is_cell_shape(thing):
    """Whether any value is (number, number, name)."""
    if not isinstance(thing, tuple) or len(thing) != 3:
        return False
    return is_number(thing[0]) and is_number(thing[1]) and is_name(thing[2])
