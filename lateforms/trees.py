"""Trees of questions."""

from lateforms.answers import possible_answers, results_of, with_answer
from lateforms.sums import refuse_sum


def tree_of(schema, cls, kind, expression):
    """The tree of an expression for a kind."""
    refuse_sum(expression)
    return tree_below(schema, cls, kind, [expression], {})


def tree_below(schema, cls, kind, expressions, answers):
    """The tree that asks what the expressions read besides the answers; at its leaves are the results of the first."""
    path, results = results_of(schema, cls, kind, expressions, answers)
    if path is None:
        return ("leaf", results[0])
    branches = [
        tree_below(schema, cls, kind, expressions, with_answer(answers, path, answer))
        for answer in possible_answers(schema, cls, path)
    ]
    return ("ask", path, tuple(branches))


def outcomes(schema, cls, kind, expression):
    """The distinct results of an expression for a kind, None first, then ascending."""
    tree = tree_of(schema, cls, kind, expression)
    found = {result: True for result in leaves_of(tree)}
    there = sorted([result for result in found if result is not None])
    return (None, *there) if None in found else tuple(there)


def leaves_of(thing):
    """The results at the leaves of a tree, from the left to the right."""
    waiting = [thing]
    while waiting:
        node = waiting.pop()
        if node[0] == "leaf":
            yield node[1]
        else:
            waiting.extend(node[2][::-1])
