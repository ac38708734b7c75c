"""Chains of reads that lead from the asked cells of a late store to other cells."""

from lateforms.frames import Frame
from lateforms.lateviews import LateView


class Reach:
    """A late store, and its chains that do not go on from a cell of a chosen object."""

    def __init__(self, late):
        self._frame = Frame(late)
        self._view = LateView(self._frame)

    def chains(self, chosen):
        """A chain to each cell that is reached, by that cell; an asked one is a chain alone."""
        found = {cell: (cell,) for cell in self._frame.asked_cells()}
        # each read leads one version down: when a version has its turn, its chains are complete
        for moment in range(self._frame.newest(), 0, -1):
            for cell in self._frame.cells_in_moment(moment):
                if cell in found and cell[0] not in chosen:
                    self.go_on(found, cell)
        return found

    def go_on(self, found, cell):
        """Put the chains to what a cell reads among those that were found, where there are no better ones."""
        for other in self._view.cell_reads(cell):
            longer = found[cell] + (other,)
            if other not in found or len(self.met_by(longer)) < len(self.met_by(found[other])):
                found[other] = longer

    def met_by(self, chain):
        """The numbers of the living objects that meet a chain, ascending."""
        return met_objects(self._frame, chain)

    def best_chain(self, cells, chosen):
        """A chain to one of these cells that few living objects meet, or None if none of them is reached."""
        found = self.chains(chosen)
        best = None
        for cell in cells:
            if cell in found and (best is None or len(self.met_by(found[cell])) < len(self.met_by(best))):
                best = found[cell]
        return best


def met_objects(frame, chain):
    """The numbers of the living objects that meet a chain, ascending."""
    return sorted(set([cell[0] for cell in chain[:-1] if frame.is_living(cell[0])]))
