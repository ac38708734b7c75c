"""What a desk answers: each command asks or changes the Store. An answer may be empty here."""

from lateforms.steprows import forms_text, numbers_text, step_row, value_text, values_text


def answer_text(store, command):
    """The answer to a command."""
    word, *things = command
    action = ANSWERS[word]
    return action(store, *things)


def step_answer(store, step):
    """Do a step; a number, numbers, or ok."""
    answer = store.go(step)
    if answer is None:
        return "ok"
    return numbers_text(answer) if isinstance(answer, tuple) else str(answer)


def bars_answer(store, step):
    """The word that bars a step."""
    return store.barred(step) or ""


def try_answer(store, *steps):
    """The room behind a trial."""
    _, held = store.tried(*steps)
    return str(held)


def value_answer(store, number, field):
    """The value of a field."""
    return value_text(store.value_of(number, field))


def was_answer(store, name, number, field):
    """The value of a field at a snapshot."""
    return value_text(store.was(name, number, field))


def object_answer(store, number):
    """The class and the values of an object."""
    cls, values = store.object_of(number)
    return f"{cls} {values_text(values)}"


def living_answer(store):
    """The numbers of the living objects."""
    return numbers_text([number for number, _, _ in store.walk()])


def pending_answer(store):
    """The numbers of the pending objects."""
    return numbers_text(store.pending())


def version_answer(store):
    """The number of the newest version."""
    return str(store.version)


def pace_answer(store):
    """The pace."""
    return str(store.pace)


def room_answer(store):
    """The number of held cells."""
    return str(store.room())


def snapshots_answer(store):
    """The snapshots with their versions."""
    return " ".join([f"{name}={version}" for name, version in store.snapshots])


def schema_answer(store):
    """The newest schema."""
    return forms_text(store.schema)


def undo_answer(store):
    """Undo the last step; its row."""
    return step_row(store.undo())


def count_answer(store):
    """The number of steps."""
    return str(len(store.log()))


def log_answer(store):
    """The rows of the steps."""
    return str(store)


def table_answer(store):
    """The table in one line."""
    return " / ".join(store.table())


ANSWERS = {
    "do": step_answer,
    "bars": bars_answer,
    "try": try_answer,
    "value": value_answer,
    "was": was_answer,
    "object": object_answer,
    "living": living_answer,
    "pending": pending_answer,
    "version": version_answer,
    "pace": pace_answer,
    "room": room_answer,
    "snapshots": snapshots_answer,
    "schema": schema_answer,
    "undo": undo_answer,
    "count": count_answer,
    "log": log_answer,
    "table": table_answer,
}
