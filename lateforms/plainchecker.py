"""The checker of plain stores."""

from lateforms.errors import InvalidPaper
from lateforms.kinds import is_name, is_number, is_schema
from lateforms.schemas import form_of, is_link
from lateforms.values import in_range


def is_plain(thing):
    """Whether any value is a plain store."""
    try:
        lets_plain(thing)
    except InvalidPaper:
        return False
    return True


def lets_plain(thing):
    """How many classes and how many objects a plain store has; InvalidPaper for any other value."""
    if not has_shape(thing):
        raise InvalidPaper("shape", -1)
    schema, limit, objects = thing
    before = -1
    for k, row in enumerate(objects):
        if not before < row[0] < limit:
            raise InvalidPaper("number", k)
        check_object(schema, k, row)
        before = row[0]
    check_links(schema, objects)
    return len(schema), len(objects)


def has_shape(thing):
    """Whether any value is (schema, number, tuple of (number, name, tuple))."""
    if not isinstance(thing, tuple) or len(thing) != 3:
        return False
    schema, limit, objects = thing
    if not is_schema(schema) or not is_number(limit) or not isinstance(objects, tuple):
        return False
    return all([is_row(row) for row in objects])


def is_row(row):
    """Whether any value is (number, name, tuple)."""
    if not isinstance(row, tuple) or len(row) != 3:
        return False
    return is_number(row[0]) and is_name(row[1]) and isinstance(row[2], tuple)


def check_object(schema, k, row):
    """Raise the first error of object k, its number and links to others aside."""
    _, cls, values = row
    form = form_of(schema, cls)
    if form is None:
        raise InvalidPaper("class", k)
    if len(values) != len(form):
        raise InvalidPaper("many", k)
    for j, (_, kind) in enumerate(form):
        if not could_suit(kind, values[j]):
            raise InvalidPaper("value", (k, j))


def could_suit(kind, value):
    """Whether any value suits a field of the kind if a link leads to an object of the right class."""
    if is_link(kind):
        return value is None or is_number(value)
    return in_range(kind, value)


def check_links(schema, objects):
    """Raise the error of the first link that does not lead to an object of its class."""
    classes = {number: cls for number, cls, _ in objects}
    for k, (_, cls, values) in enumerate(objects):
        for j, (_, kind) in enumerate(form_of(schema, cls)):
            if is_link(kind) and values[j] is not None and classes.get(values[j]) != kind:
                raise InvalidPaper("link", (k, j))
