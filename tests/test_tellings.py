import random
import unittest

from lateforms.errors import GoneCell, InvalidPaper
from lateforms.latecells import cell_value, cells_of
from lateforms.latesteps import forgotten, late_released
from lateforms.tellchecker import lets_told
from lateforms.tellings import told_paper
from tests.lateruns import CHAIN, LATE, LATER, TWICE, Run, tellable_in, value_in
from tests.samples import ODD, Case
from tests.test_latecells import NO_CELLS

LOAD = (0, 1, "load")
PAPER = (((1, 0, "box"), 0), ((1, 0, "size"), 3), ((2, 0, "box"), 0), ((2, 0, "size"), 4), (LOAD, 7))


class TestLetsTold(Case):
    """[49]"""

    def wrong(self, word, at, thing, cell=LOAD, late=LATE):
        self.refused(InvalidPaper, {"word": word, "at": at}, lets_told, late, cell, thing)

    def test_example(self):
        self.exactly(lets_told(LATER, (1, 1, "size"), (((1, 1, "size"), 9),)), 9)
        self.wrong("read", (0, (2, 0, "size")), (((2, 1, "size"), 4),), (2, 1, "size"), LATER)

    def test_accepted(self):
        self.exactly(lets_told(thing=PAPER, cell=LOAD, late=LATE), 7)
        self.exactly(lets_told(LATER, LOAD, PAPER), 7)
        # other orders, and more rows than needed
        self.exactly(lets_told(LATE, LOAD, PAPER[3::-1] + PAPER[4:]), 7)
        more = (((0, 0, "free"), 5), ((0, 1, "free"), 5), *PAPER[:2], ((1, 1, "size"), 3), *PAPER[2:])
        self.exactly(lets_told(LATE, LOAD, more), 7)
        self.exactly(lets_told(CHAIN, (0, 1, "n"), (((0, 0, "n"), 1), ((0, 1, "n"), None))), None)
        self.exactly(lets_told(LATE, (0, 0, "free"), (((0, 0, "free"), 5),)), 5)

    def test_no_cell(self):
        for cell in NO_CELLS:
            for thing in (PAPER, (), None, 5, (((0, 0, "free"), 9),)):
                self.refused(GoneCell, {"cell": cell}, lets_told, LATE, cell, thing)

    def test_shape(self):
        for thing in (*ODD, None, 5, (), [*PAPER], (5,), (PAPER[0], ()), (LOAD, 7), ((LOAD,),), ((LOAD, 7, 7),), ([LOAD, 7],),
                      ((LOAD, True),), ((LOAD, "gone"),), ((LOAD, (7,)),), ((list(LOAD), 7),), ((LOAD[:2], 7),),
                      (((0, 1, "Load"), 7),), (((0, -1, "load"), 7),), (((True, 1, "load"), 7),), (((0, 1, None), 7),),
                      (*PAPER, None), (((9, 9, "q"), 1), (LOAD, "7"))):
            self.wrong("shape", -1, thing)

    def test_cell(self):
        for cell in ((9, 0, "free"), (0, 2, "load"), (0, 0, "load"), (0, 0, "q")):
            self.wrong("cell", 0, ((cell, 7), *PAPER))
            self.wrong("cell", 4, (*PAPER[:4], (cell, 5), PAPER[4]))
        self.wrong("cell", 1, (PAPER[0], *PAPER))
        self.wrong("cell", 1, (PAPER[0], (PAPER[0][0], 99), *PAPER))
        self.wrong("cell", 5, (*PAPER, PAPER[4]))
        self.wrong("cell", 0, (((1, 1, "x"), 4),), (0, 0, "x"), CHAIN)

    def test_gone(self):
        late = forgotten(late_released(CHAIN, 1))
        for value in (3, None, 99):
            self.wrong("gone", 0, (((0, 0, "x"), value),), (0, 0, "x"), late)
        self.wrong("gone", 1, (((0, 0, "n"), 1), ((1, 0, "x"), 4)), (0, 3, "n"), late)
        self.wrong("gone", 0, (((2, 0, "x"), 8),), (2, 0, "x"), CHAIN)
        # what is prepared is not held
        late = TWICE[:2] + ((("a", 0, None, 0, ("gone",)),), ((0, 0, "x", 3),), ())
        self.wrong("gone", 0, (((0, 0, "x"), 3),), (0, 0, "x"), late)

    def test_value(self):
        for value in (0, 2, 4, None, 99):
            self.wrong("value", 1, (PAPER[0], ((1, 0, "size"), value), *PAPER[2:]))
        for value in (1, None, -1):
            self.wrong("value", 0, (((1, 0, "box"), value), *PAPER[1:]))
        self.wrong("value", 0, (((1, 0, "box"), None), ((9, 9, "q"), 1)), LOAD, LATER)

    def test_read(self):
        for k in range(4):
            self.wrong("read", (3, PAPER[k][0]), (*PAPER[:k], *PAPER[k + 1:]))
        self.wrong("read", (0, PAPER[0][0]), (PAPER[4], *PAPER[:4]))
        self.wrong("read", (0, (1, 0, "box")), PAPER[4:])
        self.wrong("read", (1, (1, 0, "size")), (PAPER[0], PAPER[4]))
        self.wrong("read", (0, (0, 0, "x")), (((0, 1, "x"), 99),), (0, 1, "x"), CHAIN)
        self.wrong("read", (1, (0, 0, "n")), (((0, 0, "x"), 3), ((0, 1, "x"), 99)), (0, 1, "x"), CHAIN)
        self.wrong("read", (2, (1, 0, "x")), (((0, 0, "x"), 3), ((0, 0, "n"), 1), ((0, 1, "x"), 99)), (0, 1, "x"), CHAIN)

    def test_result(self):
        for value in (0, 6, 8, None):
            self.wrong("result", 4, (*PAPER[:4], (LOAD, value)))
        self.wrong("result", 1, (((0, 0, "n"), 1), ((0, 1, "n"), 1)), (0, 3, "n"), CHAIN)
        self.wrong("result", 1, (PAPER[1], ((1, 1, "size"), 4), *PAPER))

    def test_last(self):
        self.wrong("last", -1, (*PAPER, ((0, 0, "free"), 5)))
        self.wrong("last", -1, PAPER[:4])
        self.wrong("last", -1, PAPER, (0, 0, "free"))
        # also if the cell is gone, or would be no cell to compute
        self.wrong("last", -1, (((0, 0, "n"), 1),), (2, 0, "x"), CHAIN)
        self.wrong("value", 0, (((1, 0, "box"), None),))

    def test_order(self):
        self.wrong("value", 0, (((1, 0, "box"), 1), ((9, 0, "q"), 1)))
        self.wrong("cell", 0, (((9, 0, "q"), 1), ((1, 0, "box"), 1)))
        self.wrong("result", 4, (*PAPER[:4], (LOAD, 8), ((0, 0, "free"), 1)))


class TestToldPaper(Case):
    """[49], [52]"""

    def test_by_name(self):
        self.exactly(told_paper(cell=(1, 0, "size"), late=LATE), (((1, 0, "size"), 3),))

    def test_papers(self):
        for late in (LATE, LATER, TWICE, CHAIN):
            for cell in cells_of(late):
                if late is not CHAIN or cell[:2] != (2, 0):
                    paper = told_paper(late, cell)
                    self.assertEqual(len(set(row[0] for row in paper)), len(paper))
                    self.exactly(lets_told(late, cell, paper), cell_value(late, cell))

    def test_gone(self):
        for cell in NO_CELLS:
            self.refused(GoneCell, {"cell": cell}, told_paper, LATE, cell)
        late = forgotten(late_released(CHAIN, 1))
        for cell in ((0, 0, "x"), (0, 1, "x"), (0, 2, "x"), (1, 0, "x"), (2, 1, "n")):
            self.refused(GoneCell, {"cell": cell}, told_paper, late, cell)

    def test_changed_papers(self):
        """What the checker accepts is true, whatever was done to the paper."""
        accepted = 0
        for seed in range(60):
            run = Run(random.Random(seed))
            for _ in range(20):
                run.step()
            for cell in sorted(tellable_in(run.late, run.history)):
                rows = list(told_paper(run.late, cell))
                for _ in range(2):
                    k = run.rng.randrange(len(rows))
                    what = run.rng.randrange(3)
                    if what == 0:
                        rows[k] = (rows[k][0], run.rng.choice((None, 0, 1, 2)))
                    if what == 1 and len(rows) > 1:
                        del rows[k]
                    if what == 2:
                        other = run.rng.randrange(len(rows))
                        rows[k], rows[other] = rows[other], rows[k]
                    try:
                        value = lets_told(run.late, cell, tuple(rows))
                    except InvalidPaper:
                        continue
                    self.exactly(value, value_in(run.history, cell))
                    accepted += 1
        self.assertGreater(accepted, 200)


if __name__ == "__main__":
    unittest.main()
