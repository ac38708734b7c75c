"""Plain stores in which each path from an object leads to an object of its own."""

from lateforms.plainviews import PlainView
from lateforms.schemas import form_of, is_link


def unfolded(plain, number, depth):
    """The plain store unfolded at an object to a depth."""
    view = PlainView(plain)
    view.require(number)
    schema, _, objects = plain
    forms = {other: form_of(schema, cls) for other, cls, _ in objects}
    ends = ends_of(view, forms, number, depth)
    places = {path: k for k, path in enumerate(ends)}
    rows = []
    for path in ends:
        other = ends[path]
        values = [
            places.get(path + (field,)) if is_link(kind) else view.told(other, field)
            for field, kind in forms[other]
        ]
        rows.append((places[path], view.class_of(other), tuple(values)))
    return schema, len(rows), tuple(rows)


def ends_of(view, forms, number, depth):
    """Where the paths of links of at most this many fields lead from an object, by length, then ascending."""
    ends = {(): number}
    longest = [()]
    for _ in range(depth):
        longest = [
            path + (field,)
            for path in longest
            for field, kind in forms[ends[path]]
            if is_link(kind) and view.told(ends[path], field) is not None
        ]
        for path in longest:
            ends[path] = view.told(ends[path[:-1]], path[-1])
    return ends
