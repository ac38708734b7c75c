"""Papers about cells judged in another way, from the plain stores of all versions.

A verdict is what a checker has to return, or the pair (word, at) of the error that it has to raise.
The papers have the right shape.
"""

from lateforms.errors import InvalidPaper
from tests.lateruns import all_cells, asked_in, converted_in, needed_in, reads_in, tellable_in


def verdict_of(call, *given):
    try:
        return call(*given)
    except InvalidPaper as e:
        return (e.word, e.at)


def chain_error(late, history, chain):
    if chain[0] not in asked_in(late, history):
        return ("asked", -1)
    for k, (cell, other) in enumerate(zip(chain, chain[1:])):
        if other not in reads_in(late, history, cell):
            return ("reads", k)
    return None


def chain_verdict(late, history, cell, chain):
    if not chain:
        return ("shape", -1)
    error = chain_error(late, history, chain)
    if error is None and chain[-1] != cell:
        return ("last", -1)
    return error or len(chain)


def closed_error(late, history, cells, barred=()):
    told = tellable_in(late, history)
    there = all_cells(history)
    for k, cell in enumerate(cells):
        if cell not in there or k > 0 and cell <= cells[k - 1]:
            return ("cell", k)
        if cell not in told:
            return ("gone", k)
        if cell in barred:
            return ("there", k)
    for cell in asked_in(late, history):
        if cell not in cells:
            return ("asked", cell)
    for k, cell in enumerate(cells):
        for other in reads_in(late, history, cell):
            if other not in cells:
                return ("read", (k, other))
    return None


def closed_verdict(late, history, cell, cells):
    error = closed_error(late, history, cells)
    if error is None and cell in cells:
        return ("there", -1)
    return error or len(cells)


def pending_in(late, history):
    return [number for number, _, _ in history[-1][2] if late[2][number][3] < len(late[1])]


def all_converted_in(late, history, numbers):
    for number in numbers:
        late = converted_in(late, history, number)
    return late


def old_cells_in(late, history, cls, version, field):
    return [cell for cell in all_cells(history)
            if late[2][cell[0]][0] == cls and cell[1] <= version and cell[2] == field]


def is_freed(late, history, numbers, cells):
    """Whether none of the cells is needed where these objects are converted; they are converted in order to see it."""
    return not set(cells) & set(needed_in(all_converted_in(late, history, numbers), history))


def free_verdict(late, history, cls, version, field, thing):
    cells = old_cells_in(late, history, cls, version, field)
    living = [number for number, _, _ in history[-1][2]]
    if thing[0] == "never":
        chain = thing[1]
        if not chain or chain_error(late, history, chain) or chain[-1] not in cells:
            return ("chain", -1)
        return next((("lives", k) for k, cell in enumerate(chain[:-1]) if cell[0] in living), None)
    _, numbers, closed, tree = thing
    for k, number in enumerate(numbers):
        if number not in pending_in(late, history) or k > 0 and number <= numbers[k - 1]:
            return ("number", k)
    error = closed_error(all_converted_in(late, history, numbers), history, closed, cells)
    if error:
        return error
    if bool(tree) != bool(numbers):
        return ("tree", -1)
    for i, (chain, branches, chosen, left) in enumerate(nodes_in(late, history, tree, len(numbers) - 1, living)):
        if not chain or chain_error(late, history, chain) or chain[-1] not in cells:
            return ("chain", i)
        if any(cell[0] in chosen for cell in chain[:-1]):
            return ("met", i)
        if len(branches) != (len(met_in(chain, living)) if left else 0):
            return ("branches", i)
    return len(numbers)


def met_in(chain, living):
    return sorted(set(cell[0] for cell in chain[:-1]) & set(living))


def nodes_in(late, history, tree, left, living, chosen=()):
    """The nodes in preorder, each with the objects chosen on the way and how many are left."""
    if tree:
        chain, branches = tree
        yield chain, branches, chosen, left
        for number, branch in zip(met_in(chain, living), branches):
            yield from nodes_in(late, history, branch, left - 1, living, (*chosen, number))
