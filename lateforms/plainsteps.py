"""Steps on plain stores: to make, write and drop objects, and to convert all of them."""

from lateforms.changes import changed
from lateforms.errors import InvalidStep, UnknownObject
from lateforms.kinds import is_integer
from lateforms.schemas import form_of, is_link, place_of
from lateforms.values import suits

LENGTHS = {"make": 3, "write": 4, "drop": 2, "change": 2}


def made(plain, cls, *values):
    """The store after an object of the class is made."""
    return made_by(plain, ("make", cls, values))


def written(plain, number, field, value):
    """The store after a field of an object gets the value."""
    return written_by(plain, ("write", number, field, value))


def dropped(plain, number):
    """The store after an object is dropped; links to it become None."""
    check_number(plain, number)
    schema, limit, objects = plain
    forms = {cls: form for cls, form in schema}
    rows = [
        (other, cls, unlinked(forms[cls], values, number))
        for other, cls, values in objects
        if other != number
    ]
    return schema, limit, tuple(rows)


def plain_step(plain, step):
    """The store after a step that is given as any value."""
    if not is_step(step):
        raise InvalidStep(step, "step")
    if step[0] == "make":
        return made_by(plain, step)
    if step[0] == "write":
        return written_by(plain, step)
    if step[0] == "drop":
        return dropped(plain, step[1])
    return changed(plain, step[1])


def is_step(step):
    """Whether any value is a step by its word and its length."""
    if not isinstance(step, tuple) or len(step) == 0 or not isinstance(step[0], str):
        return False
    if LENGTHS.get(step[0]) != len(step):
        return False
    return step[0] != "make" or isinstance(step[2], tuple)


def made_by(plain, step):
    """The store after a step that makes an object."""
    schema, limit, objects = plain
    _, cls, values = step
    form = form_of(schema, cls)
    if form is None:
        raise InvalidStep(step, "class")
    if not all_suit(form, values, classes_of(plain)):
        raise InvalidStep(step, "values")
    return schema, limit + 1, (*objects, (limit, cls, values))


def written_by(plain, step):
    """The store after a step that writes a field."""
    _, number, field, value = step
    check_number(plain, number)
    schema, limit, objects = plain
    classes = classes_of(plain)
    form = form_of(schema, classes[number])
    j = place_of(form, field)
    if j is None:
        raise InvalidStep(step, "field")
    if not suits(form[j][1], value, classes):
        raise InvalidStep(step, "value")
    rows = [with_value(row, j, value) if row[0] == number else row for row in objects]
    return schema, limit, tuple(rows)


def with_value(row, j, value):
    """The row of an object with value j in place of the one it has."""
    number, cls, values = row
    return number, cls, values[:j] + (value,) + values[j + 1:]


def classes_of(plain):
    """The class of each object, by its number."""
    return {number: cls for number, cls, _ in plain[2]}


def check_number(plain, number):
    """Raise UnknownObject if any value is not the number of an object."""
    if not is_integer(number) or number not in classes_of(plain):
        raise UnknownObject(number)


def all_suit(form, values, classes):
    """Whether there is one value for each field, in order, that can stand in it."""
    if len(values) != len(form):
        return False
    return all([suits(kind, value, classes) for (_, kind), value in zip(form, values)])


def unlinked(form, values, number):
    """The values with None in place of each link to the object."""
    return tuple([
        None if is_link(kind) and value == number else value
        for (_, kind), value in zip(form, values)
    ])
