"""Evaluating expressions by what the paths from own lead to, as it is answered.

An object is told by the path that leads to it, and own by (): so different paths lead to
different objects. Answers are a dict from paths to what stands at their ends: a number,
None, or for a link that is there the path itself.
"""

from lateforms.evaluation import evaluated
from lateforms.schemas import is_link, path_kind
from lateforms.values import bounded


class AnsweredView:
    """An object whose fields are answered; for other fields it tells the first answer that is possible."""

    def __init__(self, schema, cls, answers):
        self._schema = schema
        self._cls = cls
        self._answers = answers
        self._unanswered = []

    def told(self, place, field):
        """The value of a field of the object at this place."""
        path = place + (field,)
        if path in self._answers:
            return self._answers[path]
        self._unanswered.append(path)
        kind = path_kind(self._schema, self._cls, path)
        return None if is_link(kind) else kind[0]

    def first_unanswered(self):
        """The first path that was read without an answer, or None."""
        return self._unanswered[0] if self._unanswered else None


def possible_answers(schema, cls, path):
    """All answers that a path from the class can have, in order."""
    kind = path_kind(schema, cls, path)
    if is_link(kind):
        return [None, path]
    low, high = kind
    return list(range(low, high + 1))


def with_answer(answers, path, answer):
    """The answers, with one more."""
    more = {known: answers[known] for known in answers}
    more[path] = answer
    return more


def results_of(schema, cls, kind, expressions, answers):
    """The first path that is read without an answer, or None, and the results of the expressions for the kind."""
    view = AnsweredView(schema, cls, answers)
    results = [bounded(kind, evaluated(view, (), expression)) for expression in expressions]
    return view.first_unanswered(), results
