"""Equality by which True differs from 1, and a tuple from a list."""


def same(one, other):
    """Whether two values are equal, with equal kinds of all that is in them."""
    waiting = [(one, other)]
    while waiting:
        first, second = waiting.pop()
        if not alike(first, second):
            return False
        if isinstance(first, (tuple, list)):
            waiting.extend(list(zip(first, second)))
    return True


def alike(first, second):
    """Whether two values are equal as far as can be seen without looking into tuples and lists."""
    if isinstance(first, tuple):
        return isinstance(second, tuple) and len(first) == len(second)
    if isinstance(first, list):
        return isinstance(second, list) and len(first) == len(second)
    return isinstance(first, bool) == isinstance(second, bool) and first == second
