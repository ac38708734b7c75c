import random
import unittest

from lateforms.chainchecker import lets_chain, lets_closed
from lateforms.chains import chain_to, closed_set
from lateforms.errors import GoneCell, InvalidPaper
from lateforms.latecells import asked, cells_of, fresh_late, needed
from lateforms.latesteps import converted, forgotten, late_released
from tests.lateruns import CHAIN, LATE, LATER, SCHEMA, TWICE, Run, all_cells, needed_in
from tests.samples import ODD, Case
from tests.test_latecells import NO_CELLS
from tests.verdicts import chain_verdict, closed_verdict, verdict_of

SIZE = (1, 0, "size")
LOAD = (0, 1, "load")
OWN = (1, 1, "size")
WAY = (LOAD, SIZE)
BAD_CELL = (9, 9, "q")
# not cells by shape
NO_SHAPES = (None, 5, "a", True, (), (1, 0), (1, 0, "size", 3), [1, 0, "size"], (-1, 0, "size"), (True, 0, "size"), (1, -1, "size"),
             (1, False, "size"), (1, None, "size"), (1, 0, "Size"), (1, 0, ""), (1, 0, None), (1, 0, ("size",)), ((1, 0, "size"),))


class TestLetsChain(Case):
    """[50]"""

    def wrong(self, word, at, thing, cell=SIZE, late=LATER):
        self.refused(InvalidPaper, {"word": word, "at": at}, lets_chain, late, cell, thing)

    def test_example(self):
        self.exactly(lets_chain(LATER, SIZE, WAY), 2)
        self.wrong("reads", 0, (OWN, SIZE))

    def test_accepted(self):
        self.exactly(lets_chain(thing=WAY, cell=SIZE, late=LATER), 2)
        self.exactly(lets_chain(LATE, SIZE, (OWN, SIZE)), 2)
        self.exactly(lets_chain(LATE, SIZE, WAY), 2)
        self.exactly(lets_chain(LATE, (2, 0, "box"), (LOAD, (2, 0, "box"))), 2)
        self.exactly(lets_chain(TWICE, (0, 0, "x"), ((0, 2, "x"), (0, 1, "x"), (0, 0, "x"))), 3)
        # of one cell: an asked one, computed or held, in the newest version or in a pinned one
        self.exactly([lets_chain(late, cell, (cell,)) for late, cell in (
            (LATER, LOAD), (LATER, OWN), (CHAIN, (0, 1, "x")), (CHAIN, (2, 1, "n")))], [1, 1, 1, 1])
        # through a pinned version, and from there
        self.exactly(lets_chain(CHAIN, (0, 0, "n"), ((0, 3, "n"), (0, 2, "n"), (0, 1, "n"), (0, 0, "n"))), 4)
        self.exactly(lets_chain(CHAIN, (1, 0, "x"), ((0, 1, "x"), (1, 0, "x"))), 2)

    def test_no_cell(self):
        for cell in NO_CELLS:
            for thing in (WAY, (), None, 5, (BAD_CELL,), (cell,)):
                self.refused(GoneCell, {"cell": cell}, lets_chain, LATE, cell, thing)

    def test_shape(self):
        for thing in (*ODD, None, 5, (), [*WAY], SIZE, (SIZE, (1, 0)), (WAY,)):
            self.wrong("shape", -1, thing)
        for bad in NO_SHAPES:
            for thing in ((bad,), (BAD_CELL, bad), (bad, *WAY), (LOAD, bad, SIZE), (*WAY, bad)):
                self.wrong("shape", -1, thing)

    def test_asked(self):
        for cell in (SIZE, (0, 0, "free"), (1, 0, "box"), BAD_CELL, (0, 2, "load"), (0, 0, "load"), (3, 1, "free"), (0, 1, "q")):
            self.wrong("asked", -1, (cell,))
            self.wrong("asked", -1, (cell, *WAY))
            self.wrong("asked", -1, (cell, BAD_CELL, OWN))
        self.wrong("asked", -1, ((0, 2, "n"), (0, 1, "n")), (0, 1, "n"), CHAIN)
        self.wrong("asked", -1, ((0, 1, "x"), (1, 0, "x")), (1, 0, "x"), late_released(CHAIN, 1))
        # in the version that is pinned, an object that was dropped in it has no cell
        self.wrong("asked", -1, ((1, 1, "x"), (1, 0, "x")), (1, 0, "x"), CHAIN)

    def test_reads(self):
        for cell in ((2, 0, "q"), (1, 1, "size"), (0, 0, "free"), (0, 1, "load"), BAD_CELL, (1, 2, "size"), (7, 0, "size")):
            self.wrong("reads", 0, (LOAD, cell))
            self.wrong("reads", 0, (LOAD, cell, SIZE))
            self.wrong("reads", 0, (LOAD, cell, BAD_CELL))
        # the last of several: a held cell reads nothing
        self.wrong("reads", 1, (*WAY, SIZE))
        self.wrong("reads", 1, (*WAY, BAD_CELL))
        self.wrong("reads", 1, ((0, 2, "x"), (0, 1, "x"), (0, 1, "x")), (0, 0, "x"), TWICE)
        self.wrong("reads", 0, ((0, 2, "x"), (0, 0, "x")), (0, 0, "x"), TWICE)
        # behind the conversion of the crate
        self.wrong("reads", 0, WAY, SIZE, converted(LATER, 0))

    def test_last(self):
        self.wrong("last", -1, WAY, (2, 0, "size"))
        self.wrong("last", -1, (LOAD,))
        self.wrong("last", -1, WAY, LOAD)
        self.wrong("last", -1, (OWN,), SIZE)
        # also if the cell is gone
        self.wrong("last", -1, ((0, 3, "n"), (0, 2, "n")), (2, 0, "x"), CHAIN)

    def test_prepared(self):
        late = TWICE[:3] + (((0, 0, "x", 3), (0, 1, "x", 4)), ())
        self.exactly(lets_chain(late, (0, 0, "x"), ((0, 2, "x"), (0, 1, "x"), (0, 0, "x"))), 3)


class TestLetsClosed(Case):
    """[51]"""

    def wrong(self, word, at, thing, cell=SIZE, late=LATE):
        self.refused(InvalidPaper, {"word": word, "at": at}, lets_closed, late, cell, thing)

    def test_accepted(self):
        late = converted(LATER, 0)
        self.exactly(lets_closed(late, SIZE, needed(late)), 8)
        self.exactly(lets_closed(thing=needed(late), cell=SIZE, late=late), 8)
        self.exactly(lets_closed(late, (1, 0, "box"), tuple(sorted((*needed(late), SIZE)))), 9)
        # more than is needed, but closed
        more = tuple(sorted((*needed(late), (1, 0, "box"))))
        self.exactly(lets_closed(late, SIZE, more), 9)
        late = late_released(CHAIN, 1)
        self.exactly([lets_closed(late, cell, needed(late)) for cell in cells_of(late) if cell not in needed(late)], [9] * 9)

    def test_no_cell(self):
        for cell in NO_CELLS:
            for thing in (needed(LATE), (), None, 5, (BAD_CELL,)):
                self.refused(GoneCell, {"cell": cell}, lets_closed, LATE, cell, thing)

    def test_shape(self):
        for thing in (*[thing for thing in ODD if thing != ()], None, 5, [*needed(LATE)], SIZE):
            self.wrong("shape", -1, thing)
        for bad in NO_SHAPES:
            for thing in ((bad,), (BAD_CELL, bad), (bad, *needed(LATE)), (*needed(LATE), bad)):
                self.wrong("shape", -1, thing)

    def test_cell(self):
        cells = needed(LATE)
        for bad in (BAD_CELL, (0, 2, "load"), (0, 0, "load"), (3, 1, "free"), (0, 1, "q")):
            self.wrong("cell", 0, (bad,))
            self.wrong("cell", 0, (bad, BAD_CELL, *cells))
            self.wrong("cell", len(cells), (*cells, bad))
        self.wrong("cell", 1, (cells[0], *cells))
        self.wrong("cell", 1, cells[::-1])
        self.wrong("cell", len(cells), (*cells, cells[-1]))
        self.wrong("cell", 2, (*cells[:2], cells[0], *cells[2:]))

    def test_gone(self):
        late = forgotten(late_released(CHAIN, 1))
        # gone, and not to be computed
        for cell in ((0, 0, "x"), (0, 1, "x"), (0, 2, "x")):
            cells = tuple(sorted((*needed(late), cell)))
            self.wrong("gone", cells.index(cell), cells, (3, 2, "x"), late)
            self.wrong("gone", cells.index(cell), (*cells, BAD_CELL), (3, 2, "x"), late)
            self.wrong("gone", 0, (cell,), (3, 2, "x"), late)
            self.wrong("gone", 0, (cell, cell), cell, late)
        # what is prepared is not held
        late = TWICE[:2] + ((("a", 0, None, 0, ("gone",)),), ((0, 0, "x", 3),), ())
        self.wrong("gone", 0, ((0, 0, "x"),), (0, 0, "x"), late)

    def test_asked(self):
        cells = needed(LATE)
        for cell in asked(LATE):
            rest = tuple(other for other in cells if other != cell)
            self.wrong("asked", cell, rest)
            self.wrong("asked", cell, rest, cell)
        self.wrong("asked", asked(LATE)[0], ())
        self.wrong("asked", (0, 1, "free"), ((0, 1, "load"),))
        rest = tuple(cell for cell in needed(CHAIN) if cell != (2, 1, "n"))
        self.wrong("asked", (2, 1, "n"), rest, (3, 2, "x"), CHAIN)

    def test_read(self):
        cells = needed(LATE)
        for cell in cells:
            if cell not in asked(LATE):
                rest = tuple(other for other in cells if other != cell)
                at = min(k for k, other in enumerate(rest) if cell in reads_at(other))
                self.wrong("read", (at, cell), rest)
                self.wrong("read", (at, cell), rest, cell)
        self.wrong("read", (0, (0, 0, "free")), asked(LATE))
        self.wrong("read", (2, (1, 0, "box")), tuple(cell for cell in cells if cell[0] == 0 or cell[1] == 1))

    def test_there(self):
        for cell in needed(LATE):
            self.wrong("there", -1, needed(LATE), cell)
        late = converted(LATER, 0)
        self.wrong("there", -1, tuple(sorted((*needed(late), SIZE))), SIZE, late)


def reads_at(cell):
    """What the cells of LATE read."""
    if cell == LOAD:
        return [(1, 0, "box"), SIZE, (2, 0, "box"), (2, 0, "size")]
    return [(cell[0], 0, cell[2])] if cell[1] == 1 else []


class TestChains(Case):
    """[50] to [52]"""

    def test_by_name(self):
        self.exactly(chain_to(cell=LOAD, late=LATER), (LOAD,))
        self.exactly(closed_set(cell=LOAD, late=LATER), None)
        self.exactly(chain_to(LATER, SIZE), WAY)
        self.exactly(closed_set(late=converted(LATER, 0), cell=SIZE), needed(converted(LATER, 0)))

    def test_no_cell(self):
        for cell in NO_CELLS:
            for call in (chain_to, closed_set):
                self.refused(GoneCell, {"cell": cell}, call, LATE, cell)
        for cell in NO_CELLS:
            self.refused(GoneCell, {"cell": cell}, chain_to, fresh_late(SCHEMA), cell)

    def test_gone(self):
        late = forgotten(late_released(CHAIN, 1))
        for cell in ((0, 0, "x"), (0, 1, "x"), (1, 0, "n")):
            self.exactly([chain_to(late, cell), closed_set(late, cell)], [None, needed(late)])

    def test_one_of_both(self):
        """(C4)"""
        for seed in range(60):
            run = Run(random.Random(seed))
            for _ in range(run.rng.randint(1, 30)):
                run.step()
            for late in (run.late, forgotten(run.late)):
                due = needed_in(late, run.history)
                for cell in all_cells(run.history):
                    chain, closed = chain_to(late, cell), closed_set(late, cell)
                    self.assertEqual([chain is None, closed is None], [cell not in due, cell in due])
                    if cell in due:
                        self.exactly(lets_chain(late, cell, chain), len(chain))
                    else:
                        self.exactly([lets_closed(late, cell, closed), closed], [len(due), tuple(due)])

    def test_papers_of_other_late_stores(self):
        """(C10): also where they come from another late store, or were changed."""
        counts = {}
        for seed in range(50):
            run = Run(random.Random(seed))
            papers = []
            for _ in range(run.rng.randint(5, 30)):
                run.step()
                for cell in run.rng.sample(all_cells(run.history), min(3, len(all_cells(run.history)))):
                    papers.append((cell, chain_to(run.late, cell), closed_set(run.late, cell) or needed(run.late)))
            for late in (run.late, forgotten(run.late)):
                for cell, chain, closed in papers:
                    if cell in all_cells(run.history):
                        self.check_papers(run, late, cell, chain, closed, counts)
        for word in ("chain", "closed", "asked", "reads", "cell", "gone", "read", "there"):
            self.assertGreater(counts.get(word, 0), 9, counts)

    def check_papers(self, run, late, cell, chain, closed, counts):
        others = all_cells(run.history) + [BAD_CELL]
        due = needed_in(late, run.history)
        for paper in (chain, mangled(run.rng, chain, others)):
            if paper:
                expected = chain_verdict(late, run.history, cell, paper)
                self.exactly(verdict_of(lets_chain, late, cell, paper), expected)
                word = expected[0] if isinstance(expected, tuple) else "chain"
                counts[word] = counts.get(word, 0) + 1
                self.assertTrue(word != "chain" or cell in due)
        for paper in (closed, mangled(run.rng, closed, others), mangled(run.rng, tuple(due), others)):
            expected = closed_verdict(late, run.history, cell, paper)
            self.exactly(verdict_of(lets_closed, late, cell, paper), expected)
            word = expected[0] if isinstance(expected, tuple) else "closed"
            counts[word] = counts.get(word, 0) + 1
            self.assertTrue(word != "closed" or cell not in due)


def mangled(rng, paper, others):
    """The tuple of cells with one left out, changed or more."""
    if not paper:
        return paper
    cells = list(paper)
    k = rng.randrange(len(cells))
    what = rng.randrange(4)
    if what == 0:
        del cells[k]
    if what == 1:
        cells[k] = rng.choice(others)
    if what == 2:
        cells.insert(k, rng.choice(others))
    if what == 3:
        cells = sorted(set(cells + [rng.choice(others)]))
    return tuple(cells)


if __name__ == "__main__":
    unittest.main()
