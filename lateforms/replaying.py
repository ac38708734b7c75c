"""Logs, and replaying them."""

from lateforms.stores import Store
from lateforms.storesteps import is_step


def is_log(thing):
    """Whether any value is a tuple of steps by kind."""
    return isinstance(thing, tuple) and all([is_step(step) for step in thing])


def replayed(schema, log):
    """A Store of the schema behind these steps."""
    store = Store(schema)
    store.follow_log(log)
    return store
