"""Papers about freeing old fields."""

from lateforms.freeing import old_cells
from lateforms.freesearch import FreeSearch
from lateforms.latecells import needed
from lateforms.latesteps import converted


def free_paper(late, cls, version, field):
    """A free paper of an old field."""
    search = FreeSearch(late, old_cells(late, cls, version, field))
    numbers = search.fewest()
    if numbers is None:
        return ("never", search.chain_past_all())
    tree = search.tree_behind((), len(numbers) - 1) if numbers else ()
    return ("free", numbers, needed(converted(late, *numbers)), tree)
