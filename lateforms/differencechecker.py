"""The checker of papers about two changes that differ."""

from lateforms.changes import changed
from lateforms.counterparts import schemas_agree
from lateforms.errors import InvalidPaper
from lateforms.kinds import is_name, is_number
from lateforms.plainchecker import is_plain
from lateforms.plainviews import PlainView
from lateforms.schemas import field_kind


def lets_difference(schema, change, other, thing):
    """True for a difference paper of the two changes; InvalidPaper for any other value."""
    if not has_shape(thing):
        raise InvalidPaper("shape", -1)
    plain, number, field = thing
    if plain[0] != schema:
        raise InvalidPaper("store", -1)
    if schemas_agree(schema, change, other) != (number is not None):
        raise InvalidPaper("schemas", -1)
    if number is not None:
        check_values(changed(plain, change), changed(plain, other), number, field)
    return True


def has_shape(thing):
    """Whether any value is (plain store, number, name) or (plain store, None, None)."""
    if not isinstance(thing, tuple) or len(thing) != 3 or not is_plain(thing[0]):
        return False
    if thing[1] is None:
        return thing[2] is None
    return is_number(thing[1]) and is_name(thing[2])


def check_values(first, second, number, field):
    """Raise InvalidPaper if the object does not have different values in the field in the two stores."""
    classes = {other: cls for other, cls, _ in first[2]}
    if number not in classes:
        raise InvalidPaper("object", -1)
    if field_kind(first[0], classes[number], field) is None:
        raise InvalidPaper("field", -1)
    if PlainView(first).told(number, field) == PlainView(second).told(number, field):
        raise InvalidPaper("same", -1)
