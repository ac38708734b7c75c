"""Changes of schemas: their checker, and converting plain stores at once."""

from lateforms.errors import InvalidPaper
from lateforms.evaluation import evaluated
from lateforms.expressions import fits
from lateforms.kinds import is_form, is_name
from lateforms.plainviews import PlainView
from lateforms.schemas import form_of, is_link
from lateforms.values import bounded


def is_change(schema, thing):
    """Whether any value is a change of the schema."""
    try:
        lets_change(schema, thing)
    except InvalidPaper:
        return False
    return True


def lets_change(schema, thing):
    """How many classes a change of the schema converts; InvalidPaper for any other value."""
    if not isinstance(thing, tuple) or not all([is_row(row) for row in thing]):
        raise InvalidPaper("shape", -1)
    for k in range(len(thing)):
        check_row(schema, thing, k)
    for k in range(len(thing)):
        check_links(schema, thing, k)
    for k in range(len(thing)):
        check_fit(schema, thing, k)
    return len([row for row in thing if row[2] is not None])


def is_row(row):
    """Whether any value is (name, form, None or a tuple)."""
    if not isinstance(row, tuple) or len(row) != 3:
        return False
    return is_name(row[0]) and is_form(row[1]) and (row[2] is None or isinstance(row[2], tuple))


def check_row(schema, rows, k):
    """Raise the first error of row k, what its fields link to and get aside."""
    cls, form, expressions = rows[k]
    if k > 0 and not cls > rows[k - 1][0]:
        raise InvalidPaper("class", k)
    is_new = form_of(schema, cls) is None
    if is_new != (expressions is None):
        raise InvalidPaper("new", k)
    if not is_new and len(expressions) != len(form):
        raise InvalidPaper("many", k)


def check_links(schema, rows, k):
    """Raise the error of the first field of row k that links to no class."""
    classes = [cls for cls, _ in schema] + [cls for cls, _, _ in rows]
    for f, (_, kind) in enumerate(rows[k][1]):
        if is_link(kind) and kind not in classes:
            raise InvalidPaper("link", (k, f))


def check_fit(schema, rows, k):
    """Raise the error of the first field of row k whose expression does not fit."""
    cls, form, expressions = rows[k]
    if expressions is None:
        return
    for f, (_, kind) in enumerate(form):
        if not fits(schema, cls, kind, expressions[f]):
            raise InvalidPaper("fit", (k, f))


def schema_after(schema, change):
    """The schema after a change of it."""
    forms = dict(schema)
    for cls, form, _ in change:
        forms[cls] = form
    return tuple([(cls, forms[cls]) for cls in sorted(forms)])


def changed(plain, thing):
    """The plain store that a change of its schema converts at once."""
    schema, limit, objects = plain
    lets_change(schema, thing)
    table = {cls: (form, expressions) for cls, form, expressions in thing}
    view = PlainView(plain)
    rows = [converted_row(view, table, row) for row in objects]
    return schema_after(schema, thing), limit, tuple(rows)


def converted_row(view, table, row):
    """The row of an object after the change; the table has the new form and expressions of each class."""
    number, cls, _ = row
    if cls not in table:
        return row
    form, expressions = table[cls]
    return number, cls, tuple([
        bounded(kind, evaluated(view, number, expression))
        for (_, kind), expression in zip(form, expressions)
    ])
