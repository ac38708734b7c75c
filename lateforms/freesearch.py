"""Searching for the fewest objects that meet all chains to some cells."""

from lateforms.latesteps import pending_numbers
from lateforms.reaching import Reach


class FreeSearch:
    """Some cells of a late store, and the objects that meet the chains to them.

    Chosen objects are a tuple of numbers, in any order.
    """

    def __init__(self, late, cells):
        self._reach = Reach(late)
        self._cells = cells
        self._pending = pending_numbers(late)
        self._known = {}

    def chain_past(self, chosen):
        """A chain to one of the cells that no chosen object meets, or None if there is none."""
        key = tuple(sorted(chosen))
        if key not in self._known:
            self._known[key] = self._reach.best_chain(self._cells, chosen)
        return self._known[key]

    def chain_past_all(self):
        """A chain to one of the cells that no living object meets, or None if there is none."""
        # what meets a chain and lives is pending
        return self.chain_past(tuple(self._pending))

    def fewest(self):
        """The fewest pending objects that meet all chains to the cells, ascending, or None if all do not suffice."""
        if self.chain_past_all() is not None:
            return None
        found = None
        left = 0
        while found is None:
            found = self.with_more((), left)
            left = left + 1
        return tuple(sorted(found))

    def with_more(self, chosen, left):
        """The chosen objects with at most so many more that meet all chains, or None if no such ones do."""
        chain = self.chain_past(chosen)
        if chain is None:
            return chosen
        if left == 0:
            return None
        for number in self._reach.met_by(chain):
            found = self.with_more((*chosen, number), left - 1)
            if found is not None:
                return found
        return None

    def tree_behind(self, chosen, left):
        """The fewest tree with so many left behind the chosen objects, which with so many more do not suffice."""
        chain = self.chain_past(chosen)
        if left == 0:
            return (chain, ())
        branches = [self.tree_behind((*chosen, number), left - 1) for number in self._reach.met_by(chain)]
        return (chain, tuple(branches))
