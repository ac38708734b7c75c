"""The checker of papers about two changes that are the same."""

from lateforms.answers import possible_answers, results_of, with_answer
from lateforms.counterparts import counterparts, schemas_agree
from lateforms.errors import InvalidPaper
from lateforms.kinds import is_integer, is_name
from lateforms.schemas import path_kind
from lateforms.sums import refuse_sums


def lets_same(schema, change, other, thing):
    """The number of leaves of a same paper of the two changes; InvalidPaper for any other value."""
    refuse_sums(change, other)
    if not isinstance(thing, tuple) or not all([is_row(row) for row in thing]):
        raise InvalidPaper("shape", -1)
    if not schemas_agree(schema, change, other):
        raise InvalidPaper("schemas", -1)
    due = counterparts(schema, change, other)
    if [(cls, field) for cls, field, _ in thing] != [(cls, field) for cls, field, _, _, _ in due]:
        raise InvalidPaper("rows", -1)
    return sum([leaves_checked(schema, k, due[k], thing[k][2]) for k in range(len(due))])


def is_row(row):
    """Whether any value is (name, name, tree by shape)."""
    if not isinstance(row, tuple) or len(row) != 3:
        return False
    return is_name(row[0]) and is_name(row[1]) and is_tree(row[2])


def is_tree(thing):
    """Whether any value is a tree by shape."""
    waiting = [thing]
    while waiting:
        node = waiting.pop()
        if not is_leaf(node) and not is_question(node):
            return False
        if node[0] == "ask":
            waiting.extend(node[2])
    return True


def is_leaf(node):
    """Whether any value is a leaf by shape."""
    if not isinstance(node, tuple) or len(node) != 2 or node[0] != "leaf":
        return False
    return node[1] is None or is_integer(node[1]) or are_names(node[1])


def is_question(node):
    """Whether any value is a question by shape, its branches aside."""
    if not isinstance(node, tuple) or len(node) != 3 or node[0] != "ask":
        return False
    return are_names(node[1]) and len(node[1]) > 0 and isinstance(node[2], tuple)


def are_names(thing):
    """Whether any value is a tuple of names."""
    return isinstance(thing, tuple) and all([is_name(field) for field in thing])


def leaves_checked(schema, k, row, tree):
    """The number of leaves of the tree of row k; InvalidPaper for its first node that is wrong."""
    count = 0
    waiting = [((), {}, tree)]
    while waiting:
        place, answers, node = waiting.pop()
        if node[0] == "leaf":
            check_leaf(schema, row, answers, node, (k, place))
            count = count + 1
        else:
            possible = answers_checked(schema, row[0], answers, node, (k, place))
            below = [
                (place + (j,), with_answer(answers, node[1], answer), node[2][j])
                for j, answer in enumerate(possible)
            ]
            waiting.extend(below[::-1])
    return count


def check_leaf(schema, row, answers, leaf, at):
    """Raise the error of a leaf where these answers are known."""
    cls, _, kind, first, second = row
    path, results = results_of(schema, cls, kind, [first, second], answers)
    if path is not None:
        raise InvalidPaper("reads", at)
    if results != [leaf[1], leaf[1]]:
        raise InvalidPaper("result", at)


def answers_checked(schema, cls, answers, question, at):
    """The possible answers of a question where these answers are known; InvalidPaper if it is wrong."""
    _, path, branches = question
    if not may_ask(schema, cls, path, answers):
        raise InvalidPaper("ask", at)
    possible = possible_answers(schema, cls, path)
    if len(possible) != len(branches):
        raise InvalidPaper("branches", at)
    return possible


def may_ask(schema, cls, path, answers):
    """Whether a path may be asked where these answers are known."""
    if path_kind(schema, cls, path) is None or path in answers:
        return False
    return len(path) == 1 or answers.get(path[:-1]) is not None
