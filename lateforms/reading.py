"""Reading plain stores: objects, paths, and the values of expressions."""

from lateforms.evaluation import evaluated, followed
from lateforms.plainviews import PlainView


def objects_of(plain, cls):
    """The numbers of the objects of a class, ascending."""
    for number, name, _ in plain[2]:
        if name == cls:
            yield number


def follow(plain, number, *path):
    """The object to which the path leads from an object, or None."""
    return followed(view_at(plain, number), number, path)


def number_at(plain, number, expression):
    """The integer that the expression is at an object."""
    return evaluated(view_at(plain, number), number, expression)


def link_at(plain, number, expression):
    """The number of the object, or None, to which the expression links at an object."""
    return evaluated(view_at(plain, number), number, expression)


def holds_at(plain, number, condition):
    """Whether the condition holds at an object."""
    return evaluated(view_at(plain, number), number, condition)


def reads_of(plain, number, expression):
    """What is read where an expression or a condition is evaluated at an object."""
    view = view_at(plain, number)
    evaluated(view, number, expression)
    return view.reads()


def view_at(plain, number):
    """A view of the store, in which any value has to be the number of an object."""
    view = PlainView(plain)
    view.require(number)
    return view
