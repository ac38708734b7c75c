"""Integers, names, kinds, forms and schemas: whether any value is one."""

LETTERS = "abcdefghijklmnopqrstuvwxyz"
LONGEST = 8


def is_integer(thing):
    """Whether any value is an integer; True and False are none."""
    return isinstance(thing, int) and not isinstance(thing, bool)


def is_number(thing):
    """Whether any value is an integer that is at least 0."""
    return is_integer(thing) and thing >= 0


def is_name(thing):
    """Whether any value is a name."""
    if not isinstance(thing, str):
        return False
    return 1 <= len(thing) <= LONGEST and all([sign in LETTERS for sign in thing])


def is_range(thing):
    """Whether any value is a range (low, high)."""
    if not isinstance(thing, tuple) or len(thing) != 2:
        return False
    return is_integer(thing[0]) and is_integer(thing[1]) and thing[0] <= thing[1]


def is_kind(thing):
    """Whether any value is a kind: a range, or the name of a class."""
    return is_name(thing) or is_range(thing)


def is_form(thing):
    """Whether any value is a form."""
    return are_named(thing) and all([is_kind(kind) for _, kind in thing])


def is_schema(thing):
    """Whether any value is a schema."""
    if not are_named(thing) or len(thing) == 0:
        return False
    if not all([is_form(form) for _, form in thing]):
        return False
    classes = [cls for cls, _ in thing]
    return all([links_lead(form, classes) for _, form in thing])


def links_lead(form, classes):
    """Whether each class to which a field of the form links is one of these."""
    return all([kind in classes for _, kind in form if isinstance(kind, str)])


def are_named(thing):
    """Whether any value is a tuple of pairs that ascend by distinct names."""
    if not isinstance(thing, tuple):
        return False
    if not all([isinstance(row, tuple) and len(row) == 2 for row in thing]):
        return False
    names = [name for name, _ in thing]
    return all([is_name(name) for name in names]) and ascends(names)


def ascends(names):
    """Whether each name is greater than the one before."""
    return all([names[k] < names[k + 1] for k in range(len(names) - 1)])
