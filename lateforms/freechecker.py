"""The checker of papers about freeing old fields."""

from lateforms.chainchecker import are_cells, check_closed, check_member, leads_to_one
from lateforms.errors import InvalidPaper
from lateforms.frames import Frame
from lateforms.freeing import old_cells
from lateforms.kinds import is_number
from lateforms.latesteps import converted
from lateforms.lateviews import LateView
from lateforms.reaching import met_objects


def lets_free(late, cls, version, field, thing):
    """How many objects a free paper converts, or None if none suffice; InvalidPaper for any other value."""
    cells = old_cells(late, cls, version, field)
    if not is_free_shape(thing) and not is_never_shape(thing):
        raise InvalidPaper("shape", -1)
    if thing[0] == "never":
        check_never(late, cells, thing[1])
        return None
    _, numbers, closed, tree = thing
    check_numbers(late, numbers)
    check_freed(converted(late, *numbers), cells, closed)
    if (tree == ()) != (numbers == ()):
        raise InvalidPaper("tree", -1)
    check_tree(late, cells, tree, len(numbers) - 1)
    return len(numbers)


def is_free_shape(thing):
    """Whether any value is ("free", tuple of numbers, tuple of cells by shape, tree by shape)."""
    if not isinstance(thing, tuple) or len(thing) != 4 or thing[0] != "free":
        return False
    if not isinstance(thing[1], tuple) or not all([is_number(number) for number in thing[1]]):
        return False
    return are_cells(thing[2]) and is_tree(thing[3])


def is_never_shape(thing):
    """Whether any value is ("never", tuple of cells by shape)."""
    return isinstance(thing, tuple) and len(thing) == 2 and thing[0] == "never" and are_cells(thing[1])


def is_tree(thing):
    """Whether any value is a tree by shape: (), or a pair of cells by shape and a tuple of such pairs."""
    waiting = [] if thing == () else [thing]
    while waiting:
        node = waiting.pop()
        if not isinstance(node, tuple) or len(node) != 2 or not are_cells(node[0]) or not isinstance(node[1], tuple):
            return False
        waiting.extend(node[1])
    return True


def check_never(late, cells, chain):
    """Raise the first error of what is no chain to one of the cells that no living object meets."""
    frame = Frame(late)
    if not leads_to_one(frame, LateView(frame), chain, cells):
        raise InvalidPaper("chain", -1)
    for k, cell in enumerate(chain[:-1]):
        if frame.is_living(cell[0]):
            raise InvalidPaper("lives", k)


def check_numbers(late, numbers):
    """Raise the error of the first number that is not that of a pending object, or does not ascend."""
    frame = Frame(late)
    for k, number in enumerate(numbers):
        if not frame.is_pending(number) or k > 0 and not number > numbers[k - 1]:
            raise InvalidPaper("number", k)


def check_freed(late, cells, closed):
    """Raise the first error of a tuple of cells by shape that is no closed set, or has one of the cells in it."""
    frame = Frame(late)
    view = LateView(frame)
    for k in range(len(closed)):
        check_member(frame, view, closed, k)
        if closed[k] in cells:
            raise InvalidPaper("there", k)
    check_closed(frame, view, closed)


def check_tree(late, cells, tree, left):
    """Raise the first error of a tree by shape that is no fewest tree with so many left."""
    frame = Frame(late)
    view = LateView(frame)
    waiting = [] if tree == () else [(tree, (), left)]
    i = 0
    while waiting:
        (chain, branches), chosen, more = waiting.pop()
        if not leads_to_one(frame, view, chain, cells):
            raise InvalidPaper("chain", i)
        if any([cell[0] in chosen for cell in chain[:-1]]):
            raise InvalidPaper("met", i)
        numbers = met_objects(frame, chain) if more > 0 else []
        if len(branches) != len(numbers):
            raise InvalidPaper("branches", i)
        below = [(branch, (*chosen, number), more - 1) for branch, number in zip(branches, numbers)]
        waiting.extend(below[::-1])
        i = i + 1
