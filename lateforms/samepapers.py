"""Papers about two changes that are the same."""

from lateforms.counterparts import counterparts
from lateforms.comparing import same_changes
from lateforms.trees import tree_below


def same_paper(schema, change, other):
    """A same paper of two changes, or None if they are not the same."""
    if not same_changes(schema, change, other):
        return None
    return tuple([
        (cls, field, tree_below(schema, cls, kind, [first, second], {}))
        for cls, field, kind, first, second in counterparts(schema, change, other)
    ])
