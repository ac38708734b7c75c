"""The written forms of changes."""

from lateforms.texts import expression_text, kind_text


def change_text(change):
    """The written change."""
    if len(change) == 0:
        return "-"
    return " ".join([row_text(cls, form, expressions) for cls, form, expressions in change])


def row_text(cls, form, expressions):
    """The written row of a class."""
    fields = [f"{field}:{kind_text(kind)}" for field, kind in form]
    if expressions is None:
        return " ".join(["new", cls, *fields])
    written = [f"{field} {expression_text(part)}" for field, part in zip(fields, expressions)]
    return " ".join(["convert", cls, *written])
