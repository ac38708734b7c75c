"""Stores beside a model of them: the plain store of each version, and the version of each row.

A StoreRun does steps on both; what the Store has to tell follows from the model.
"""

import re

from lateforms.changes import is_change
from lateforms.closing import closed_up
from lateforms.plainsteps import dropped, made, written
from lateforms.stores import Store
from tests.randoms import random_change, random_schema, random_value
from tests.slowly import converted

S = (("item", (("next", "item"), ("x", (0, 9)))),)
C = (("item", (("y", (0, 20)),), (("+", ("get", ("x",), 0), ("get", ("next", "x"), 0)),)),)
NAMES = ("noon", "eve", "none", "make", "a", "zz")
WORDS = ("make", "make", "make", "write", "write", "drop", "change", "change", "keep", "release", "touch", "sweep", "pace", "close")


class StoreRun:
    def __init__(self, rng, schema=None, sums=True):
        self.rng = rng
        self.schema = random_schema(rng) if schema is None else schema
        self.store = Store(self.schema)
        self.history = [(self.schema, 0, ())]
        self.rows = []
        self.snapshots = {}
        self.pace = 0
        self.sums = sums

    def living(self):
        return [number for number, _, _ in self.history[-1][2]]

    def classes(self):
        return {number: cls for number, cls, _ in self.history[-1][2]}

    def newest(self):
        return len(self.history) - 1

    def pending(self):
        return [number for number in self.living() if self.rows[number] < self.newest()]

    def next_swept(self, most):
        return tuple(sorted(self.pending(), key=lambda number: (self.rows[number], number))[:most])

    def convert(self, numbers):
        for number in numbers:
            self.rows[number] = self.newest()

    def some_step(self, words=WORDS):
        """A random step that is not barred; None if there is none of the chosen word."""
        word = self.rng.choice(words)
        plain = self.history[-1]
        if word == "make" and len(self.rows) < 8:
            cls, form = self.rng.choice(plain[0])
            return ("make", cls, tuple(random_value(self.rng, kind, self.classes()) for _, kind in form))
        if word == "write":
            fields = [(n, field, kind) for n, cls in self.classes().items() for field, kind in dict(plain[0])[cls]]
            if fields:
                number, field, kind = self.rng.choice(fields)
                return ("write", number, field, random_value(self.rng, kind, self.classes()))
        if word == "drop" and self.living() and self.rng.random() < 0.5:
            return ("drop", self.rng.choice(self.living()))
        if word == "change" and self.newest() < 5:
            return ("change", random_change(self.rng, plain[0], 5, self.sums))
        if word == "keep" and self.newest() < 5 and len(self.snapshots) < len(NAMES):
            return ("keep", self.rng.choice([name for name in NAMES if name not in self.snapshots]))
        if word == "release" and self.snapshots:
            return ("release", self.rng.choice(sorted(self.snapshots)))
        if word == "touch" and self.living():
            return ("touch", tuple(self.rng.sample(self.living(), self.rng.randint(1, len(self.living())))))
        if word == "sweep":
            return ("sweep", self.rng.randint(1, 3))
        if word == "pace":
            return ("pace", self.rng.choice((0, 0, 1, 2, 9)))
        return ("close",) if word == "close" else None

    def go_on(self, many):
        """Do so many random steps, or fewer, on the Store and on the model."""
        for _ in range(many):
            step = self.some_step()
            if step is not None:
                self.expect(step)
                self.store.go(step)

    def expect(self, step):
        """Do a step on the model; its answer."""
        answer = getattr(self, "do_" + step[0])(*step[1:])
        self.convert(self.next_swept(self.pace))
        return answer

    def do_make(self, cls, values):
        self.history[-1] = made(self.history[-1], cls, *values)
        self.rows.append(self.newest())
        return len(self.rows) - 1

    def do_write(self, number, field, value):
        self.history[-1] = written(self.history[-1], number, field, value)
        self.convert([number])

    def do_drop(self, number):
        self.history[-1] = dropped(self.history[-1], number)

    def do_change(self, change):
        self.history.append(converted(self.history[-1], change))
        return self.newest()

    def do_keep(self, name):
        self.snapshots[name] = self.newest()
        self.history.append(self.history[-1])
        return self.newest() - 1

    def do_release(self, name):
        del self.snapshots[name]

    def do_touch(self, numbers):
        due = tuple(number for number in numbers if number in self.pending())
        self.convert(due)
        return due

    def do_sweep(self, most):
        due = self.next_swept(most)
        self.convert(due)
        return due

    def do_pace(self, most):
        self.pace = most

    def do_close(self):
        """(What is kept, and where objects were dropped, is asked from the late store of the Store.)"""
        late, many = self.store.late, 0
        while True:
            schema, changes, rows, kept, pins = late
            found = [
                w for w in range(1, len(changes))
                if w not in pins and all(w not in (row[2], row[3]) for row in rows) and all(entry[1] != w for entry in kept)
                and "'sum'" not in repr(changes[w - 1:w + 1])
            ]
            if not found:
                return many
            late = closed_up(late, found[0])
            del self.history[found[0]]
            self.rows = [version - (version > found[0]) for version in self.rows]
            self.snapshots = {name: version - (version > found[0]) for name, version in self.snapshots.items()}
            many += 1


def is_integer(thing):
    return isinstance(thing, int) and not isinstance(thing, bool)


def is_number(thing):
    return is_integer(thing) and thing >= 0


def is_name(thing):
    return isinstance(thing, str) and re.fullmatch("[a-z]{1,8}", thing) is not None


def has_shape(step):
    """Whether any value is a step by kind."""
    match step:
        case ("make", cls, tuple() as values):
            return isinstance(step, tuple) and is_name(cls) and all(value is None or is_integer(value) for value in values)
        case ("write", number, field, value):
            return isinstance(step, tuple) and is_number(number) and is_name(field) and (value is None or is_integer(value))
        case ("drop", number) | ("pace", number):
            return isinstance(step, tuple) and is_number(number)
        case ("change", _):
            return isinstance(step, tuple)
        case ("keep", name) | ("release", name):
            return isinstance(step, tuple) and is_name(name)
        case ("touch", tuple() as numbers):
            return isinstance(step, tuple) and 0 < len(numbers) and all(map(is_number, numbers)) and len(set(numbers)) == len(numbers)
        case ("sweep", most):
            return isinstance(step, tuple) and is_number(most) and most > 0
        case ("close",):
            return isinstance(step, tuple)
    return False


def fits(run, kind, value):
    if isinstance(kind, str):
        return value is None or is_number(value) and run.classes().get(value) == kind
    return is_integer(value) and kind[0] <= value <= kind[1]


def word_in(run, step):
    """The word that bars a step, from the model; None if none does."""
    if not has_shape(step):
        return "shape"
    schema = dict(run.history[-1][0])
    full = "full" if run.newest() >= 5 else None
    match step:
        case ("make", cls, values):
            if cls not in schema:
                return "class"
            if len(values) != len(schema[cls]) or not all(fits(run, kind, value) for (_, kind), value in zip(schema[cls], values)):
                return "values"
            return "full" if len(run.rows) >= 8 else None
        case ("write", number, field, value):
            if number not in run.living():
                return "number"
            form = dict(schema[run.classes()[number]])
            if field not in form:
                return "field"
            return None if fits(run, form[field], value) else "value"
        case ("drop", number):
            return None if number in run.living() else "number"
        case ("change", change):
            return full if is_change(run.history[-1][0], change) else "change"
        case ("keep", name):
            return "name" if name in run.snapshots else full
        case ("release", name):
            return None if name in run.snapshots else "name"
        case ("touch", numbers):
            return None if set(numbers) <= set(run.living()) else "number"
    return None


def odd_step(rng, step):
    """A step that is near to the given one: something in it is different."""
    if rng.random() < 0.1:
        return rng.choice((None, (), 5, "make", [*step], (*step, 0), step[:-1], (step,), (step[0].upper(), *step[1:])))
    rows = list(step)
    k = rng.randrange(len(rows))
    if isinstance(rows[k], tuple) and rows[k] and rng.random() < 0.7:
        inner = list(rows[k])
        j = rng.randrange(len(inner))
        inner[j] = rng.choice((None, True, -1, 0, 1, 7, 99, "gone", "item", (), inner[0]))
        rows[k] = tuple(inner[:-1] if rng.random() < 0.2 else inner)
    else:
        rows[k] = rng.choice((None, True, -1, 0, 1, 7, 99, "", "a", "b", "c", "f", "g", "noon", "eve", (), (0,), (0, 0), (None,), [0]))
    return tuple(rows)
