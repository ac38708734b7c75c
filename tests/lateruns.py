"""Late stores beside the plain stores of all their versions, converted at once.

A Run does random steps on both; what a late store has to say follows from the plain stores.
"""

from lateforms.latecells import fresh_late
from lateforms.latesteps import (
    converted as late_converted, forgotten, late_changed, late_dropped, late_made, late_pinned, late_released, late_written,
)
from lateforms.plainsteps import dropped, made, written
from tests.randoms import random_change, random_schema, random_value
from tests.slowly import converted, value_and_reads

SCHEMA = (("crate", (("free", (0, 9)),)), ("item", (("box", "crate"), ("size", (0, 9)))))
CHANGE = (("crate", (("free", (0, 9)), ("load", (0, 99))), (("get", ("free",), 0), ("sum", "item", "box", "size"))),)
ROWS = (("crate", 0, None, 0, (5,)), ("item", 0, None, 0, (0, 3)), ("item", 0, None, 0, (0, 4)))
LATE = (SCHEMA, (CHANGE,), ROWS, (), ())
LATER = late_written(LATE, 1, "size", 9)
TWICE = ((("a", (("x", (0, 9)),)),), (
    (("a", (("x", (0, 9)),), (("+", ("get", ("x",), 0), 1),)),),
    (("a", (("x", (0, 99)),), (("*", ("get", ("x",), 0), 2),)),),
), (("a", 0, None, 0, (3,)),), (), ())
# objects that were born and dropped in several versions: 0 lives, 1 was dropped in 1, 2 in 2, 3 lives and is young
CHAIN = ((("a", (("n", "a"), ("x", (0, 9)))),), (
    (("a", (("n", "a"), ("x", (0, 20))), (("to", ("n",)), ("+", ("get", ("x",), 0), ("get", ("n", "x"), 0)))),),
    (),
    (("a", (("n", "a"), ("y", (0, 99))), (("to", ("n",)), ("sum", "a", "n", "x"))),),
), (
    ("a", 0, None, 0, (1, 3)), ("a", 0, 1, 0, (None, 4)), ("a", 0, 2, 1, (0, 8)), ("a", 2, None, 2, (0, 6)),
), (), (1,))

# two objects read one another in turn: the x of 0 in version 2 is that of 1 in version 1, and so on
HOP = (("a", (("n", "a"), ("x", (0, 9))), (("to", ("n",)), ("get", ("n", "x"), 0))),)
HOPS = (CHAIN[0], (HOP, HOP), (("a", 0, None, 0, (1, 3)), ("a", 0, None, 0, (0, 4))), (), ())


class Run:
    """A late store, and the plain store of each version; the last one is that of now."""

    def __init__(self, rng, changes=5, objects=8, sums=True):
        self.rng = rng
        schema = random_schema(rng)
        self.late = fresh_late(schema)
        self.history = [(schema, 0, ())]
        self.most = (changes, objects)
        self.sums = sums

    def classes(self):
        return {number: cls for number, cls, _ in self.history[-1][2]}

    def living(self):
        return list(self.classes())

    def pending(self):
        return [n for n in self.living() if self.late[2][n][3] < len(self.late[1])]

    def step(self):
        """Do a random step on the late store and on the plain stores; the word of the step."""
        words = ["make", "make", "write", "write", "drop", "change", "change", "pin", "release", "convert", "forget", "prepare"]
        word = self.rng.choice(words)
        return word if getattr(self, word)() else self.step()

    def make(self):
        if len(self.late[2]) == self.most[1]:
            return False
        schema = self.history[-1][0]
        cls = self.rng.choice(schema)[0]
        values = [random_value(self.rng, kind, self.classes()) for _, kind in dict(schema)[cls]]
        self.late = late_made(self.late, cls, *values)
        self.history[-1] = made(self.history[-1], cls, *values)
        return True

    def write(self):
        fields = [(n, field, kind) for n, cls in self.classes().items() for field, kind in dict(self.history[-1][0])[cls]]
        if not fields:
            return False
        number, field, kind = self.rng.choice(fields)
        value = random_value(self.rng, kind, self.classes())
        self.late = late_written(self.late, number, field, value)
        self.history[-1] = written(self.history[-1], number, field, value)
        return True

    def drop(self):
        if not self.living() or self.rng.random() < 0.4:
            return False
        number = self.rng.choice(self.living())
        self.late = late_dropped(self.late, number)
        self.history[-1] = dropped(self.history[-1], number)
        return True

    def change(self):
        if len(self.late[1]) == self.most[0]:
            return False
        change = self.some_change()
        self.late = late_changed(self.late, change)
        self.history.append(converted(self.history[-1], change))
        return True

    def some_change(self):
        """A random change; fields often keep their names, so that there is more to read later."""
        schema = self.history[-1][0]
        change = random_change(self.rng, schema, 7, self.sums)
        if self.rng.random() < 0.3:
            change = tuple(row for row in change if row[2] is not None and all(
                kind in dict(schema) for _, kind in row[1] if isinstance(kind, str)))
        return change

    def pin(self):
        if len(self.late[1]) == self.most[0]:
            return False
        self.late = late_pinned(self.late)
        self.history.append(self.history[-1])
        return True

    def release(self):
        if not self.late[4]:
            return False
        self.late = late_released(self.late, self.rng.choice(self.late[4]))
        return True

    def convert(self):
        if not self.living():
            return False
        self.late = late_converted(self.late, *self.rng.choices(self.living(), k=self.rng.randint(1, 3)))
        return True

    def prepare(self):
        """Keep a cell of a pending object as a stopped conversion would."""
        known = [entry[:3] for entry in self.late[3]]
        cells = [cell for cell in tellable_in(self.late, self.history)
                 if self.late[2][cell[0]][3] <= cell[1] < len(self.late[1]) and cell not in known]
        if not cells:
            return False
        schema, changes, rows, kept, pins = self.late
        cell = self.rng.choice(sorted(cells))
        kept = sorted([*kept, (*cell, value_in(self.history, cell))], key=lambda entry: entry[:3])
        self.late = (schema, changes, rows, tuple(kept), pins)
        return True

    def forget(self):
        self.late = forgotten(self.late)
        return True


def all_cells(history):
    return sorted(
        (number, version, field)
        for version, (schema, _, objects) in enumerate(history)
        for number, cls, _ in objects
        for field, _ in dict(schema)[cls]
    )


def value_in(history, cell):
    number, version, field = cell
    schema, _, objects = history[version]
    cls, values = {n: row for n, *row in objects}[number]
    return values[[name for name, _ in dict(schema)[cls]].index(field)]


def reads_in(late, history, cell):
    """What a cell reads where it is computed."""
    number, version, field = cell
    if version <= late[2][number][3]:
        return ()
    rows = {cls: (form, parts) for cls, form, parts in late[1][version - 1]}
    cls = late[2][number][0]
    if cls not in rows:
        return ((number, version - 1, field),)
    form, parts = rows[cls]
    part = parts[[name for name, _ in form].index(field)]
    return tuple((n, version - 1, name) for n, name in value_and_reads(history[version - 1], number, part)[1])


def asked_in(late, history):
    return [cell for cell in all_cells(history) if cell[1] == len(late[1]) or cell[1] in late[4]]


def needed_in(late, history):
    found = set()
    waiting = asked_in(late, history)
    while waiting:
        cell = waiting.pop()
        if cell not in found:
            found.add(cell)
            waiting += reads_in(late, history, cell)
    return sorted(found)


def held_in(late, history):
    """The cells that are held."""
    found = []
    for number, version, field in all_cells(history):
        cls, _, _, current, values = late[2][number]
        names = [name for name, _ in dict(history[version][0])[cls]]
        if version == current and values[names.index(field)] != "gone":
            found.append((number, version, field))
        if version < current and (number, version, field) in [entry[:3] for entry in late[3]]:
            found.append((number, version, field))
    return found


def tellable_in(late, history):
    """The cells that can be told."""
    found = set(held_in(late, history))
    for cell in sorted(all_cells(history), key=lambda cell: cell[1]):
        if cell[1] > late[2][cell[0]][3] and all(other in found for other in reads_in(late, history, cell)):
            found.add(cell)
    return found


def converted_in(late, history, number):
    """The late store in which a pending object is converted."""
    schema, changes, rows, kept, pins = late
    cls, born, end, _, _ = rows[number]
    values = tuple(value_in(history, cell) for cell in all_cells(history) if cell[:2] == (number, len(changes)))
    rows = rows[:number] + ((cls, born, end, len(changes), values),) + rows[number + 1:]
    known = [entry[:3] for entry in kept]
    more = [
        (*cell, value_in(history, cell)) for cell in needed_in((schema, changes, rows, kept, pins), history)
        if cell[0] == number and cell[1] < len(changes) and cell not in known
    ]
    return (schema, changes, rows, tuple(sorted(list(kept) + more, key=lambda entry: entry[:3])), pins)


def forgotten_in(late, history):
    schema, changes, rows, kept, pins = late
    due = needed_in(late, history)
    left = tuple(entry for entry in kept if entry[:3] in due and entry[1] < rows[entry[0]][3])
    after = []
    for n, (cls, born, end, current, values) in enumerate(rows):
        names = [name for name, _ in dict(history[current][0])[cls]]
        after.append((cls, born, end, current, tuple(
            value if (n, current, name) in due else "gone" for name, value in zip(names, values))))
    return (schema, changes, tuple(after), left, pins)
