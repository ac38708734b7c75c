"""Evaluating expressions and conditions at an object.

A view tells what is looked at: view.told(number, field) is the value of a field,
view.members(cls) the ascending list of the objects of a class.
"""

LEAVES = ("get", "sum", "none", "self", "to")


def evaluated(view, own, part):
    """The value of a part at own: a number, the number of an object or None, or a bool."""
    if not isinstance(part, tuple):
        return part
    word = part[0]
    if word in LEAVES:
        return leaf_value(view, own, part)
    first = evaluated(view, own, part[1])
    if word == "not":
        return not first
    if word == "if":
        return evaluated(view, own, part[2] if first else part[3])
    if word == "and" and not first:
        return False
    return combined(word, first, evaluated(view, own, part[2]))


def leaf_value(view, own, part):
    """The value of a part in which no other parts stand."""
    word = part[0]
    if word == "self":
        return own
    if word == "sum":
        _, cls, link, field = part
        return summed(view, own, cls, link, field)
    end = followed(view, own, part[1])
    if word == "none":
        return end is None
    return part[2] if word == "get" and end is None else end


def followed(view, own, path):
    """The value with which a path from own ends, or None if a link on the way is None."""
    end = own
    for field in path:
        if end is None:
            return None
        end = view.told(end, field)
    return end


def summed(view, own, cls, link, field):
    """The sum of the field over the objects of the class whose link is own."""
    result = 0
    for number in view.members(cls):
        if view.told(number, link) == own:
            result = result + view.told(number, field)
    return result


def combined(word, first, second):
    """What an operation makes of the values of its two parts; of "and" the first one holds."""
    if word == "+":
        return first + second
    if word == "-":
        return first - second
    if word == "*":
        return first * second
    if word == "least":
        return min(first, second)
    if word == "most":
        return max(first, second)
    if word == "<":
        return first < second
    if word == "=":
        return first == second
    return second
