"""Papers that tell a cell."""

from lateforms.latecells import view_on


def told_paper(late, cell):
    """A told paper of a cell; GoneCell for any other value, and for a cell that is gone or cannot be computed."""
    view = view_on(late, cell)
    rows = {}
    waiting = [cell]
    while waiting:
        latest = waiting[-1]
        missing = [other for other in view.cell_reads(latest) if other not in rows]
        if missing:
            waiting.extend(missing)
        else:
            rows[latest] = view.cell_told(latest)
            waiting.pop()
    return tuple([(other, rows[other]) for other in rows])
