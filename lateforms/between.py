"""The store between two changes, told by the store before them.

What the second change reads becomes an expression over the store before that reads
exactly what the values between are computed from. A goal says what is made of a path:
("get", default) a number, ("to", None) a link, ("none", 1) a number that is 1 if the path
leads to None and else 0. Its second entry is the result if a link on the way is None.
"""

from lateforms.changes import schema_after
from lateforms.facts import decided, learned, starts
from lateforms.kinds import is_integer
from lateforms.prefixes import behind
from lateforms.schemas import field_kind, is_link, own_field
from lateforms.values import bounded


class Between:
    """The store between: each of its fields as an expression over the store before."""

    def __init__(self, schema, change):
        self._forms = schema_after(schema, change)
        self._sources = {}
        for cls, form in schema:
            for field, kind in form:
                self._sources[(cls, field)] = own_field(field, kind)
        for cls, form, expressions in change:
            # an object of a new class does not exist yet: no path of the store before leads to one
            if expressions is not None:
                for (field, kind), expression in zip(form, expressions):
                    self._sources[(cls, field)] = within(kind, expression)

    def carried(self, cls, part, facts=()):
        """A part that is evaluated between, at an object of the class, over the store before."""
        if not isinstance(part, tuple) or part[0] == "self":
            return part
        word = part[0]
        if word == "none":
            return is_one(self.reached((), cls, part[1], (word, 1), facts))
        if word == "get" or word == "to":
            missing = part[2] if word == "get" else None
            return self.reached((), cls, part[1], (word, missing), facts)
        first = self.carried(cls, part[1], facts)
        if word == "if":
            return self.chosen_parts(cls, first, part, facts)
        if word == "and":
            return ("and", first, self.carried(cls, part[2], learned(facts, first, True)))
        others = [self.carried(cls, thing, facts) for thing in part[2:]]
        return (word, first, *others)

    def chosen_parts(self, cls, condition, part, facts):
        """An "if" whose condition is carried already."""
        holds = decided(facts, condition)
        if holds is not None:
            return self.carried(cls, part[2] if holds else part[3], facts)
        first = self.carried(cls, part[2], learned(facts, condition, True))
        second = self.carried(cls, part[3], learned(facts, condition, False))
        return choice(condition, first, second)

    def reached(self, place, cls, path, goal, facts):
        """What a path between is, from the object of the class at the end of the place, which is there."""
        if len(path) == 0:
            return 0
        value = behind(self._sources[(cls, path[0])], place)
        if len(path) == 1 and goal[0] != "none":
            return value
        return self.parted(value, field_kind(self._forms, cls, path[0]), path[1:], goal, facts)

    def parted(self, link, cls, path, goal, facts):
        """What the rest of a path is behind a link of the store between; it parts where the link may be None."""
        if link is None:
            return goal[1]
        if link[0] == "self":
            return self.reached((), cls, path, goal, facts)
        condition = link[1] if link[0] == "if" else ("none", link[1])
        holds = decided(facts, condition)
        if holds is not None:
            return self.side(link, holds, cls, path, goal, facts)
        first = self.side(link, True, cls, path, goal, learned(facts, condition, True))
        second = self.side(link, False, cls, path, goal, learned(facts, condition, False))
        return choice(condition, first, second)

    def side(self, link, holds, cls, path, goal, facts):
        """What the rest of a path is on one side of a link that parts it."""
        if link[0] == "if":
            return self.parted(link[2] if holds else link[3], cls, path, goal, facts)
        return goal[1] if holds else self.reached(link[1], cls, path, goal, facts)


def within(kind, expression):
    """The expression, bounded as a field of the kind bounds it."""
    if is_link(kind):
        return expression
    if is_integer(expression):
        return bounded(kind, expression)
    low, high = kind
    return ("least", ("most", expression, low), high)


def choice(condition, first, second):
    """The "if" of these, or something shorter with the same value and the same reads."""
    if condition[0] == "none" and isinstance(second, tuple):
        path = condition[1]
        word = second[0]
        if word == "get" and is_integer(first) and starts(second[1], path):
            if second[2] == first or second[1][:-1] == path:
                return ("get", second[1], first)
        if word == "to" and first is None and starts(second[1], path):
            return second
        if word == "if" and second[2] == first and is_none_behind(second[1], path):
            return second
    return ("if", condition, first, second)


def is_none_behind(condition, path):
    """Whether a condition asks if the path is None, or one that goes on behind it."""
    return condition[0] == "none" and starts(condition[1], path)


def is_one(number):
    """The condition that a number, 1 or 0, is 1."""
    if isinstance(number, tuple) and number[2:] == (1, 0):
        return number[1]
    return ("=", number, 1)
