"""Chains to needed cells, and closed sets without cells that are not needed."""

from lateforms.frames import require_cell
from lateforms.latecells import needed
from lateforms.reaching import Reach


def chain_to(late, cell):
    """A chain to a cell, or None if it is not needed; GoneCell for any other value."""
    require_cell(late, cell)
    return Reach(late).chains(()).get(cell)


def closed_set(late, cell):
    """A closed set without a cell, or None if it is needed; GoneCell for any other value."""
    require_cell(late, cell)
    cells = needed(late)
    return None if cell in cells else cells
