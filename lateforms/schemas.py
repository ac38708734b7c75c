"""What a schema says of a class, a field or a path. What is asked for may be any value."""


def form_of(schema, cls):
    """The form of the class, or None if this is no class of the schema."""
    for name, form in schema:
        if name == cls:
            return form
    return None


def place_of(form, field):
    """The place of the field in the form, or None if this is no field of it."""
    for k, (name, _) in enumerate(form):
        if name == field:
            return k
    return None


def field_kind(schema, cls, field):
    """The kind of a field of a class, or None if there is no such class or field."""
    form = form_of(schema, cls)
    if form is None:
        return None
    k = place_of(form, field)
    return None if k is None else form[k][1]


def path_kind(schema, cls, path):
    """The kind of the field with which the path ends, or None if it is no path from the class."""
    if not isinstance(path, tuple) or len(path) == 0:
        return None
    kind = cls
    for field in path:
        # a range is no class, so a path does not go on behind a number field
        kind = field_kind(schema, kind, field)
    return kind


def is_link(kind):
    """Whether this is the kind of a link field; it may be None."""
    return isinstance(kind, str)


def is_number_field(kind):
    """Whether this is the kind of a number field; it may be None."""
    return isinstance(kind, tuple)


def own_field(field, kind):
    """The expression that is the field itself."""
    return ("to", (field,)) if is_link(kind) else ("get", (field,), 0)
