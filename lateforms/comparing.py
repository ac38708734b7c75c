"""Whether expressions and changes are the same for every store, and what shows that they are not."""

from lateforms.answers import possible_answers, results_of, with_answer
from lateforms.changes import is_change, schema_after
from lateforms.counterparts import counterparts, schemas_agree
from lateforms.joining import joined
from lateforms.schemas import form_of, is_link, path_kind
from lateforms.sums import refuse_sum, refuse_sums


def same_expressions(schema, cls, kind, expression, other):
    """Whether two expressions have the same result for the kind at each object of the class."""
    refuse_sum(expression, (0,))
    refuse_sum(other, (1,))
    return parting_answers(schema, cls, kind, [expression, other]) is None


def parting_answers(schema, cls, kind, expressions):
    """Answers to all that both expressions read by which their results differ, or None."""
    waiting = [{}]
    while waiting:
        answers = waiting.pop()
        path, results = results_of(schema, cls, kind, expressions, answers)
        if path is not None:
            more = [with_answer(answers, path, answer) for answer in possible_answers(schema, cls, path)]
            waiting.extend(more[::-1])
        elif results[0] != results[1]:
            return answers
    return None


def same_changes(schema, change, other):
    """Whether two changes lead from every plain store to the same one."""
    return difference(schema, change, other) is None


def changes_nothing(schema, change):
    """Whether a change leads from every plain store to this store itself."""
    return same_changes(schema, change, ())


def difference(schema, change, other):
    """A difference paper of two changes, or None if they are the same."""
    refuse_sums(change, other)
    if not schemas_agree(schema, change, other):
        return (schema, 0, ()), None, None
    for cls, field, kind, first, second in counterparts(schema, change, other):
        answers = parting_answers(schema, cls, kind, [first, second])
        if answers is not None:
            return answered_store(schema, cls, answers), 0, field
    return None


def answered_store(schema, cls, answers):
    """A plain store whose object 0 has these answers; each path that is there leads to an object of its own."""
    paths = [()] + [path for path in answers if answers[path] == path]
    places = {path: k for k, path in enumerate(paths)}
    rows = []
    for path in paths:
        name = path_kind(schema, cls, path) if path else cls
        values = [
            places.get(path + (field,)) if is_link(kind) else answers.get(path + (field,), kind[0])
            for field, kind in form_of(schema, name)
        ]
        rows.append((places[path], name, tuple(values)))
    return schema, len(rows), tuple(rows)


def commute(schema, change, other):
    """Whether two changes may be exchanged: they lead from every plain store to the same one in both orders."""
    refuse_sums(change, other)
    if not is_change(schema_after(schema, change), other) or not is_change(schema_after(schema, other), change):
        return False
    return same_changes(schema, joined(schema, change, other), joined(schema, other, change))
