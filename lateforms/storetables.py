"""The living objects of a late store as a table."""

from lateforms.latecells import plain_store
from lateforms.schemas import form_of
from lateforms.steprows import value_text


def table_lines(late):
    """A string for each living object: its number, its class, the version of its row, and its values now."""
    schema, _, objects = plain_store(late)
    rows = [
        (str(number), cls, str(late[2][number][3]), fields_text(form_of(schema, cls), values))
        for number, cls, values in objects
    ]
    widths = [max([len(row[k]) for row in rows], default=0) for k in range(3)]
    return ["  ".join([*[row[k].ljust(widths[k]) for k in range(3)], row[3]]) for row in rows]


def fields_text(form, values):
    """The fields with their values, or - if there are none."""
    if len(form) == 0:
        return "-"
    return ",".join([f"{field}={value_text(value)}" for (field, _), value in zip(form, values)])
