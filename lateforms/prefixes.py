"""Putting expressions without sums behind paths of links."""


def behind(part, path):
    """A part without sums as it is read at the end of the path."""
    if not isinstance(part, tuple) or len(path) == 0:
        return part
    word = part[0]
    if word == "self":
        return ("to", path)
    if word in ("get", "none", "to"):
        return (word, path + part[1]) + part[2:]
    # a loop takes less of the stack than a comprehension, and joined expressions can be deep
    inner = []
    for thing in part[1:]:
        inner.append(behind(thing, path))
    return (word, *inner)
