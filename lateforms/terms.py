"""Objects for expressions that are numbers, and for conditions."""

from lateforms.sameness import same
from lateforms.texts import expression_text


def holds_expression(thing):
    """Whether any value is a Term or a Condition."""
    return isinstance(thing, Term) or isinstance(thing, Condition)


def bare(thing):
    """The expression of a Term or a Condition; anything else is one already."""
    return thing.expression if holds_expression(thing) else thing


def from_the_left(word, first, others):
    """The expression that joins the first one and each of the others by the word, from the left."""
    whole = first
    for other in others:
        whole = (word, whole, bare(other))
    return whole


class Term:
    """An object for an expression that is a number; it never changes."""

    def __init__(self, expression):
        self._expression = bare(expression)

    @staticmethod
    def by_path(*path, default=0):
        """The number with which a path ends, or the default."""
        return Term(("get", path, default))

    @staticmethod
    def total(cls, link, field):
        """The sum of a field over the objects of a class that link to own."""
        return Term(("sum", cls, link, field))

    @property
    def expression(self):
        """The expression."""
        return self._expression

    def least(self, *others):
        """The least of the Term and the others."""
        return Term(from_the_left("least", self._expression, others))

    def most(self, *others):
        """The greatest of the Term and the others."""
        return Term(from_the_left("most", self._expression, others))

    def less(self, other):
        """The Condition that the Term is less than the other."""
        return Condition(("<", self._expression, bare(other)))

    def equals(self, other):
        """The Condition that the Term is equal to the other."""
        return Condition(("=", self._expression, bare(other)))

    def chosen(self, condition, other):
        """The Term if the condition holds, else the other."""
        return Term(("if", bare(condition), self._expression, bare(other)))

    def __add__(self, other):
        return Term(("+", self._expression, bare(other)))

    def __radd__(self, other):
        return Term(("+", bare(other), self._expression))

    def __sub__(self, other):
        return Term(("-", self._expression, bare(other)))

    def __rsub__(self, other):
        return Term(("-", bare(other), self._expression))

    def __mul__(self, other):
        return Term(("*", self._expression, bare(other)))

    def __rmul__(self, other):
        return Term(("*", bare(other), self._expression))

    def __neg__(self):
        return Term(("-", 0, self._expression))

    def __eq__(self, other):
        return holds_expression(other) and same(self._expression, other.expression)

    def __str__(self):
        return str(expression_text(self._expression))


class Condition:
    """An object for a condition; it never changes."""

    def __init__(self, expression):
        self._expression = bare(expression)

    @staticmethod
    def none(*path):
        """The Condition that a link, or one on the way to it, is None."""
        return Condition(("none", path))

    @property
    def expression(self):
        """The condition."""
        return self._expression

    def both(self, *others):
        """The Condition that this one and all the others hold."""
        return Condition(from_the_left("and", self._expression, others))

    def inverted(self):
        """The Condition that this one does not hold."""
        return Condition(("not", self._expression))

    def __eq__(self, other):
        return holds_expression(other) and same(self._expression, other.expression)

    def __str__(self):
        return str(expression_text(self._expression))
