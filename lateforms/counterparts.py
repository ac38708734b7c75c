"""The fields for which two changes of a schema may differ, each with both expressions."""

from lateforms.changes import schema_after
from lateforms.schemas import form_of, own_field


def schemas_agree(schema, change, other):
    """Whether the schemas after the changes are equal."""
    return schema_after(schema, change) == schema_after(schema, other)


def counterparts(schema, change, other):
    """The rows (class, field, kind, expression of change, expression of other), ascending.

    They are those of the classes of the schema that one of the changes converts; the
    schemas after the changes are equal.
    """
    first = expressions_by_class(schema, change)
    second = expressions_by_class(schema, other)
    converted = [row[0] for row in change + other]
    after = schema_after(schema, change)
    return [
        (cls, field, kind, first[cls][f], second[cls][f])
        for cls, _ in schema if cls in converted
        for f, (field, kind) in enumerate(form_of(after, cls))
    ]


def expressions_by_class(schema, change):
    """The expressions of each class, in the order of its form after the change."""
    table = {cls: tuple([own_field(field, kind) for field, kind in form]) for cls, form in schema}
    for cls, _, expressions in change:
        table[cls] = expressions
    return table
