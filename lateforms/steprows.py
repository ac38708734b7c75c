"""Steps, schemas and logs as rows."""

from lateforms.changetexts import change_text
from lateforms.storesteps import SLOTS
from lateforms.texts import form_text


def step_row(step):
    """The row of a step by kind."""
    word, *things = step
    entries = [entry_text(slot, thing) for slot, thing in zip(SLOTS[word], things)]
    return " ".join([word, *entries])


def entry_text(slot, thing):
    """What stands behind the word of a step, as it is written."""
    if slot == "name":
        return thing
    if slot == "values":
        return values_text(thing)
    if slot == "numbers":
        return numbers_text(thing)
    return change_text(thing) if slot == "change" else value_text(thing)


def value_text(value):
    """The written value."""
    return "none" if value is None else str(value)


def values_text(values):
    """The written values."""
    if len(values) == 0:
        return "-"
    return ",".join([value_text(value) for value in values])


def numbers_text(numbers):
    """The written numbers; nothing at all if there are none."""
    return ",".join([str(number) for number in numbers])


def schema_row(schema):
    """The row of a schema."""
    return f"store {forms_text(schema)}"


def forms_text(schema):
    """Each class of a schema, with its form."""
    return " ".join([f"{cls} {form_text(form)}" for cls, form in schema])


def log_rows(schema, log):
    """The row of a schema and the rows of the steps behind it."""
    return [schema_row(schema), *[step_row(step) for step in log]]


def steps_text(steps):
    """The rows of steps in one line, or - if there are none."""
    if len(steps) == 0:
        return "-"
    return " / ".join([step_row(step) for step in steps])
