"""Looking at the fields of a plain store, one by one."""

from lateforms.errors import UnknownObject
from lateforms.kinds import is_integer


class PlainView:
    """A plain store that remembers what was read of it."""

    def __init__(self, plain):
        schema, _, objects = plain
        fields = {cls: [field for field, _ in form] for cls, form in schema}
        self._classes = {number: cls for number, cls, _ in objects}
        self._values = {}
        for number, cls, values in objects:
            for field, value in zip(fields[cls], values):
                self._values[(number, field)] = value
        self._seen = {}

    def require(self, number):
        """Raise UnknownObject if any value is not the number of an object."""
        if not is_integer(number) or number not in self._classes:
            raise UnknownObject(number)

    def class_of(self, number):
        """The class of an object."""
        return self._classes[number]

    def members(self, cls):
        """The numbers of the objects of a class, ascending."""
        return [number for number in self._classes if self._classes[number] == cls]

    def told(self, number, field):
        """The value of a field of an object; this is a read."""
        self._seen[(number, field)] = True
        return self._values[(number, field)]

    def reads(self):
        """What was read, in order, each once."""
        return tuple(list(self._seen))
