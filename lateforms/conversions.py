"""Conversions: objects that make a row of a change from the form that a class has before."""

from lateforms.sameness import same
from lateforms.schemas import own_field


def form_in(entries):
    """The form of all entries."""
    return tuple([(field, entries[field][0]) for field in sorted(entries)])


def expressions_in(entries):
    """The expressions of all entries, in the order of the form."""
    return tuple([entries[field][1] for field in sorted(entries)])


def row_in(entries, cls):
    """The row of a change that gives a class these entries."""
    return cls, form_in(entries), expressions_in(entries)


def alike(conversion, other):
    """Whether any value is a conversion with the same form and the same expressions."""
    if not isinstance(other, Kept):
        return False
    return same(conversion.form, other.form) and same(conversion.expressions, other.expressions)


class Kept:
    """Keeps each field."""

    def __init__(self, form):
        self._before = form

    def entries(self):
        """The kind and the expression of each new field."""
        return {field: (kind, own_field(field, kind)) for field, kind in self._before}

    @property
    def form(self):
        """The new form."""
        return form_in(self.entries())

    @property
    def expressions(self):
        """The expressions of the new fields, in order."""
        return expressions_in(self.entries())

    def row_of(self, cls):
        """The row of a change for the class."""
        return row_in(self.entries(), cls)

    def __eq__(self, other):
        return alike(self, other)


class Renamed(Kept):
    """Gives the entry of a field to another field."""

    def __init__(self, form, *, old, new):
        Kept.__init__(self, form)
        self._old = old
        self._new = new

    def entries(self):
        """The kind and the expression of each new field."""
        entries = super().entries()
        if self._old not in list(entries):
            return entries
        others = {field: entries[field] for field in entries if field != self._old}
        return {**others, self._new: entries[self._old]}

    @property
    def form(self):
        """The new form."""
        return form_in(self.entries())

    @property
    def expressions(self):
        """The expressions of the new fields, in order."""
        return expressions_in(self.entries())

    def row_of(self, cls):
        """The row of a change for the class."""
        return row_in(self.entries(), cls)

    def __eq__(self, other):
        return alike(self, other)


class Without(Kept):
    """Leaves out a field."""

    def __init__(self, form, *, field):
        Kept.__init__(self, form)
        self._field = field

    def entries(self):
        """The kind and the expression of each new field."""
        entries = super().entries()
        return {field: entries[field] for field in entries if field != self._field}

    @property
    def form(self):
        """The new form."""
        return form_in(self.entries())

    @property
    def expressions(self):
        """The expressions of the new fields, in order."""
        return expressions_in(self.entries())

    def row_of(self, cls):
        """The row of a change for the class."""
        return row_in(self.entries(), cls)

    def __eq__(self, other):
        return alike(self, other)


class With(Kept):
    """Gives a field a kind and an expression."""

    def __init__(self, form, *, field, kind, expression):
        Kept.__init__(self, form)
        self._field = field
        self._kind = kind
        self._expression = expression

    def entries(self):
        """The kind and the expression of each new field."""
        entries = super().entries()
        return {**entries, self._field: (self._kind, self._expression)}

    @property
    def form(self):
        """The new form."""
        return form_in(self.entries())

    @property
    def expressions(self):
        """The expressions of the new fields, in order."""
        return expressions_in(self.entries())

    def row_of(self, cls):
        """The row of a change for the class."""
        return row_in(self.entries(), cls)

    def __eq__(self, other):
        return alike(self, other)


class RenamedWith(Renamed, With):
    """Gives a field a kind and an expression, and then the entry of a field to another field."""

    def __init__(self, form, *, old, new, field, kind, expression):
        Renamed.__init__(self, form, old=old, new=new)
        With.__init__(self, form, field=field, kind=kind, expression=expression)

    def entries(self):
        """The kind and the expression of each new field."""
        return super().entries()

    @property
    def form(self):
        """The new form."""
        return form_in(self.entries())

    @property
    def expressions(self):
        """The expressions of the new fields, in order."""
        return expressions_in(self.entries())

    def row_of(self, cls):
        """The row of a change for the class."""
        return row_in(self.entries(), cls)

    def __eq__(self, other):
        return alike(self, other)


def change_of(**rows):
    """A change; the name of each argument is a class, its value a conversion or the form of a new class."""
    return tuple([row_for(cls, rows[cls]) for cls in sorted(rows)])


def row_for(cls, value):
    """The row of a change for a class, of a conversion or of the form of a new class."""
    if isinstance(value, Kept):
        return value.row_of(cls)
    return cls, value, None
