"""Reading written changes."""

from lateforms.kinds import is_name
from lateforms.readings import next_part
from lateforms.schemas import is_link
from lateforms.words import Words, kind_in


def read_change(text, *, row=0, field=0):
    """The change that a text writes."""
    return next_change(Words(text, row, field))


def next_change(words):
    """The change that comes up; nothing can stand behind it."""
    if words.ahead() == "-":
        words.advance()
        words.finish()
        return ()
    rows = [next_row(words, "")]
    while words.ahead() is not None:
        rows.append(next_row(words, rows[-1][0]))
    return tuple(rows)


def next_row(words, before):
    """The row that comes up, behind that of the class before; no name is less than an empty one."""
    word = words.ahead()
    if not begins_row(word):
        words.refuse()
    words.advance()
    cls = words.ahead()
    if not is_name(cls) or not cls > before:
        words.refuse()
    words.advance()
    form, expressions = next_fields(words, word == "convert")
    return cls, form, expressions if word == "convert" else None


def begins_row(word):
    """Whether a row begins with this word; it may be None."""
    return word == "new" or word == "convert"


def next_fields(words, have_expressions):
    """The form and the expressions of the fields that come up in a row."""
    form = []
    expressions = []
    before = ""
    while words.ahead() is not None and not begins_row(words.ahead()):
        field, _, written = words.ahead().partition(":")
        kind = kind_in(written)
        if kind is None or not is_name(field) or not field > before:
            words.refuse()
        words.advance()
        form.append((field, kind))
        before = field
        if have_expressions:
            expressions.append(next_part(words, "link" if is_link(kind) else "number", 0))
    return tuple(form), tuple(expressions)
