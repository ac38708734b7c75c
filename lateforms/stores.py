"""Live stores: a late store with snapshots, a pace and a log."""

from lateforms.errors import InvalidPace, InvalidStep, NothingToUndo, UnknownObject
from lateforms.frames import Frame
from lateforms.kinds import is_number
from lateforms.latecells import cell_value, needed, newest_schema, plain_store, room
from lateforms.latesteps import lives, pending_numbers
from lateforms.rowreadings import read_log
from lateforms.sameness import same
from lateforms.steprows import steps_text
from lateforms.storestates import barring_word, behind_step, fresh_state, living_classes, snapshot_version
from lateforms.storetables import table_lines


class Store:
    """A store of a schema that does steps; it has a state for each moment of its log."""

    OBJECTS = 8
    CHANGES = 5

    def __init__(self, schema):
        self._first = schema
        self._states = [fresh_state(schema)]
        self._steps = []
        self._started = 0
        self._finished = 0

    @classmethod
    def read(cls, text):
        """The Store of which this is the text."""
        schema, log = read_log(text.split("\n"))
        store = cls(schema)
        store.follow_log(log)
        return store

    def follow_log(self, log):
        """Do the steps of a log, which are not counted."""
        for step in log:
            self.advance_by(step)

    def advance_by(self, step):
        """Do a step, any value, and return the answer."""
        state, answer = self.state_behind(self._states[-1], step)
        self._states.append(state)
        self._steps.append(step)
        return answer

    def state_behind(self, state, step):
        """The state behind a step, any value, and its answer."""
        word = barring_word(state, step, (self.OBJECTS, self.CHANGES))
        if word is not None:
            raise InvalidStep(step, word)
        return behind_step(state, step)

    @property
    def first_schema(self):
        """The schema of which the Store was made."""
        return self._first

    @property
    def schema(self):
        """The newest schema."""
        return newest_schema(self._states[-1][0])

    @property
    def version(self):
        """The number of the newest version."""
        return len(self._states[-1][0][1])

    @property
    def late(self):
        """The late store."""
        return self._states[-1][0]

    @property
    def snapshots(self):
        """The pairs (name, version) of the snapshots, ascending."""
        return self._states[-1][1]

    @property
    def pace(self):
        """How many pending objects are converted behind each step."""
        return self._states[-1][2]

    @pace.setter
    def pace(self, value):
        self.set_pace(value)

    def plain(self):
        """The plain store."""
        return plain_store(self.late)

    def pending(self):
        """The numbers of the pending objects, ascending."""
        return tuple(pending_numbers(self.late))

    def is_swept(self):
        """Whether no object is pending."""
        return len(pending_numbers(self.late)) == 0

    def room(self):
        """The number of held cells."""
        return room(self.late)

    def needed(self):
        """The needed cells, ascending."""
        return needed(self.late)

    def __getitem__(self, number):
        if not lives(self._states[-1][0], number):
            raise UnknownObject(number)
        return self._states[-1][0][2][number][0]

    def __iter__(self):
        raise TypeError("a Store is not iterated over, but walked")

    def object_of(self, number):
        """The pair (class, values now) of a living object."""
        if number not in self:
            raise UnknownObject(number)
        rows = {other: (cls, values) for other, cls, values in self.plain()[2]}
        return rows[number]

    def __contains__(self, number):
        return lives(self._states[-1][0], number)

    def __len__(self):
        return len(living_classes(self._states[-1][0]))

    def walk(self):
        """The triples (number, class, values) of the living objects, ascending."""
        for number, cls, values in self.plain()[2]:
            yield number, cls, values

    def __eq__(self, other):
        return isinstance(other, Store) and same(self._first, other._first) and same(self._steps, other._steps)

    def __ne__(self, other):
        return not self == other

    def __str__(self):
        return str(steps_text(self._steps))

    def value_of(self, number, field):
        """The value of a field of a living object now."""
        if number not in self:
            raise UnknownObject(number)
        cell = (number, self.version, field)
        if not Frame(self.late).has_cell(cell):
            raise InvalidStep(("value", number, field), "field")
        return cell_value(self.late, cell)

    def was(self, name, number, field):
        """The value of a field of an object at a snapshot."""
        version = snapshot_version(self.snapshots, name)
        if version is None:
            raise InvalidStep(("was", name, number, field), "name")
        frame = Frame(self.late)
        if not is_number(number) or number >= len(self.late[2]) or not frame.is_there(number, version):
            raise InvalidStep(("was", name, number, field), "number")
        if not frame.has_cell((number, version, field)):
            raise InvalidStep(("was", name, number, field), "field")
        return cell_value(self.late, (number, version, field))

    def __call__(self, step):
        return self.go(step)

    def go(self, step):
        """Do a step, any value, and return the answer, or None."""
        self._started = self._started + 1
        try:
            return self.advance_by(step)
        finally:
            self._finished = self._started

    def make(self, cls, *values):
        """Make an object of a class, and return its number."""
        return self.go(("make", cls, values))

    def write(self, number, field, value):
        """Write a field of an object."""
        return self.go(("write", number, field, value))

    def drop(self, number):
        """Drop an object."""
        return self.go(("drop", number))

    def change(self, thing):
        """Begin a new version, and return its number."""
        return self.go(("change", thing))

    def keep(self, name):
        """Keep a snapshot of this moment, and return its version."""
        return self.go(("keep", name))

    def release(self, name):
        """Let a snapshot go."""
        return self.go(("release", name))

    def touch(self, *numbers):
        """Convert those of the objects that are pending, and return their numbers."""
        return self.go(("touch", numbers))

    def sweep(self, most=1):
        """Convert at most so many pending objects, and return their numbers."""
        return self.go(("sweep", most))

    def close_up(self):
        """Close up all versions that are between, and return how many they were."""
        return self.go(("close",))

    def set_pace(self, value):
        """Set the pace."""
        try:
            self.go(("pace", value))
        except InvalidStep:
            raise InvalidPace(value) from None

    def barred(self, step):
        """The word that bars any value as a step, or None."""
        return barring_word(self._states[-1], step, (self.OBJECTS, self.CHANGES))

    def do_all(self, *steps, keep=False):
        """Do steps, any values, and return how many they are; of barred ones keep tells what is left."""
        self._started = self._started + 1
        before = len(self._steps)
        try:
            self.follow_log(steps)
        except InvalidStep:
            if not keep:
                self.go_back(before)
            raise
        finally:
            self._finished = self._started
        return len(steps)

    def go_back(self, many):
        """Be again as behind the first so many steps."""
        del self._steps[many:]
        del self._states[many + 1:]

    def tried(self, *steps):
        """The pair (plain store, room) as it would be behind steps, any values."""
        state = self._states[-1]
        for step in steps:
            state, _ = self.state_behind(state, step)
        return plain_store(state[0]), room(state[0])

    def undo(self):
        """Remove the last step and all that it did, and return it."""
        self._started = self._started + 1
        try:
            if len(self._steps) == 0:
                raise NothingToUndo(0)
            self._states.pop()
            return self._steps.pop()
        finally:
            self._finished = self._started

    def log(self):
        """The steps that were done, in order."""
        return tuple(self._steps)

    def counts(self):
        """How many operations were started, and how many were finished."""
        return self._started, self._finished

    def table(self):
        """A string for each living object, ascending."""
        return table_lines(self.late)
