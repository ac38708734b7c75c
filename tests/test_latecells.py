import unittest

from lateforms.errors import GoneCell
from lateforms.latecells import (
    asked, cell_value, cells_of, fresh_late, needed, plain_store, read_cells, room, schema_at,
)
from lateforms.latechecker import lets_late
from lateforms.latesteps import converted, forgotten, late_released
from tests.lateruns import CHAIN, CHANGE, LATE, LATER, ROWS, SCHEMA, TWICE
from tests.samples import ODD, Case

NO_CELLS = ((0, 0, "size"), (0, 2, "free"), (3, 0, "free"), (-1, 0, "free"), (0, -1, "free"), (0, 0, "load"), (0, 0, "q"),
            (0, 0), (0, 0, "free", 1), [0, 0, "free"], (True, 0, "size"), (0, False, "free"), (0, 0, None), (0, 0, ["free"]),
            ((0,), 0, "free"), (None, 0, "free"), (0, 0, "FREE"), None, 5, "free", (), True, *ODD)


class TestCells(Case):
    """[7], [46]"""

    def test_example(self):
        self.exactly([cell_value(LATE, (0, 1, "load")), read_cells(LATE, (0, 1, "load"))],
                     [7, ((1, 0, "box"), (1, 0, "size"), (2, 0, "box"), (2, 0, "size"))])
        self.exactly([read_cells(LATE, (1, 1, "size")), read_cells(LATE, (1, 0, "size")), room(LATE)],
                     [((1, 0, "size"),), (), 5])

    def test_by_name(self):
        self.exactly(cell_value(cell=(0, 1, "load"), late=LATE), 7)
        self.exactly(read_cells(cell=(1, 1, "size"), late=LATE), ((1, 0, "size"),))
        self.exactly([room(late=LATE), len(asked(late=LATE)), len(needed(late=LATE)), len(list(cells_of(late=LATE)))],
                     [5, 6, 11, 11])
        self.exactly([fresh_late(schema=SCHEMA), schema_at(version=0, late=LATE)], [(SCHEMA, (), (), (), ()), SCHEMA])

    def test_fresh(self):
        late = fresh_late(SCHEMA)
        self.exactly(late, (SCHEMA, (), (), (), ()))
        self.exactly([list(cells_of(late)), asked(late), needed(late), room(late)], [[], (), (), 0])
        self.exactly([plain_store(late), lets_late(late)], [(SCHEMA, 0, ()), (0, 0)])

    def test_schemas(self):
        after = (("crate", (("free", (0, 9)), ("load", (0, 99)))), SCHEMA[1])
        self.exactly([schema_at(LATE, 0), schema_at(LATE, 1)], [SCHEMA, after])
        self.exactly([dict(schema_at(CHAIN, v))["a"][1] for v in range(4)],
                     [("x", (0, 9)), ("x", (0, 20)), ("x", (0, 20)), ("y", (0, 99))])

    def test_all_cells(self):
        self.exactly(list(cells_of(LATE)), [
            (0, 0, "free"), (0, 1, "free"), (0, 1, "load"), (1, 0, "box"), (1, 0, "size"), (1, 1, "box"), (1, 1, "size"),
            (2, 0, "box"), (2, 0, "size"), (2, 1, "box"), (2, 1, "size")])
        self.exactly(list(cells_of(CHAIN)), [
            (0, 0, "n"), (0, 0, "x"), (0, 1, "n"), (0, 1, "x"), (0, 2, "n"), (0, 2, "x"), (0, 3, "n"), (0, 3, "y"),
            (1, 0, "n"), (1, 0, "x"), (2, 0, "n"), (2, 0, "x"), (2, 1, "n"), (2, 1, "x"),
            (3, 2, "n"), (3, 2, "x"), (3, 3, "n"), (3, 3, "y")])
        # born and dropped in one version: no cells at all
        self.exactly(list(cells_of((SCHEMA, (), (("crate", 0, 0, 0, ("gone",)),), (), ()))), [])
        # twice at once, and left early
        self.exactly(list(zip(cells_of(LATE), cells_of(LATE)))[0], ((0, 0, "free"), (0, 0, "free")))
        for cell in cells_of(LATE):
            break
        self.exactly(list(cells_of(LATE))[0], cell)

    def test_values(self):
        values = {(0, 0, "n"): 1, (0, 1, "n"): None, (0, 1, "x"): 7, (0, 2, "n"): None, (0, 2, "x"): 7, (0, 3, "n"): None,
                  (0, 3, "y"): 6, (1, 0, "x"): 4, (2, 1, "n"): 0, (2, 1, "x"): 8, (3, 2, "n"): 0, (3, 3, "n"): 0, (3, 3, "y"): 0}
        for cell, value in values.items():
            self.exactly(cell_value(CHAIN, cell), value)
        self.exactly([cell_value(TWICE, (0, v, "x")) for v in range(3)], [3, 4, 8])

    def test_reads(self):
        reads = {(0, 0, "n"): (), (2, 1, "x"): (), (0, 1, "n"): ((0, 0, "n"),),
                 (0, 1, "x"): ((0, 0, "x"), (0, 0, "n"), (1, 0, "x")), (0, 2, "x"): ((0, 1, "x"),),
                 (0, 3, "y"): ((0, 2, "n"), (3, 2, "n"), (3, 2, "x")), (3, 3, "y"): ((0, 2, "n"), (3, 2, "n")),
                 (3, 3, "n"): ((3, 2, "n"),)}
        for cell, cells in reads.items():
            self.exactly(read_cells(CHAIN, cell), cells)

    def test_if_and_defaults_and_none_on_the_way(self):
        schema = (("a", (("n", "a"), ("x", (0, 9)))),)
        far = ("get", ("n", "n", "x"), 7)
        change = (("a", (("n", "a"), ("x", (0, 5))), (
            ("if", ("none", ("n",)), ("self",), ("to", ("n", "n"))),
            ("if", ("and", ("none", ("n",)), ("=", ("get", ("x",), 0), 1)), 4, far))),)
        rows = (("a", 0, None, 0, (1, 1)), ("a", 0, None, 0, (2, 2)), ("a", 0, None, 0, (None, 1)))
        late = (schema, (change,), rows, (), ())
        self.exactly([cell_value(late, (n, 1, f)) for n in range(3) for f in ("n", "x")], [2, 1, None, 5, 2, 4])
        self.exactly(read_cells(late, (0, 1, "x")), ((0, 0, "n"), (1, 0, "n"), (2, 0, "x")))
        self.exactly(read_cells(late, (1, 1, "n")), ((1, 0, "n"), (2, 0, "n")))
        self.exactly(read_cells(late, (1, 1, "x")), ((1, 0, "n"), (2, 0, "n")))
        self.exactly(read_cells(late, (2, 1, "x")), ((2, 0, "n"), (2, 0, "x")))
        self.exactly(read_cells(late, (2, 1, "n")), ((2, 0, "n"),))

    def test_no_cells(self):
        for cell in NO_CELLS:
            for call in (cell_value, read_cells):
                self.refused(GoneCell, {"cell": cell}, call, LATE, cell)
        for cell in ((1, 1, "x"), (2, 2, "x"), (3, 1, "x"), (3, 3, "x"), (0, 3, "x"), (0, 4, "y")):
            for call in (cell_value, read_cells):
                self.refused(GoneCell, {"cell": cell}, call, CHAIN, cell)

    def test_gone_cells(self):
        for cell in ((2, 0, "n"), (2, 0, "x")):
            for call in (cell_value, read_cells):
                self.refused(GoneCell, {"cell": cell}, call, CHAIN, cell)
        # what cannot be computed names itself, not what it would read
        late = forgotten(late_released(CHAIN, 1))
        self.exactly(late[2][0][4], (1, "gone"))
        for cell in ((0, 0, "x"), (0, 1, "x"), (0, 2, "x"), (1, 0, "x"), (2, 1, "n")):
            for call in (cell_value, read_cells):
                self.refused(GoneCell, {"cell": cell}, call, late, cell)
        self.exactly([cell_value(late, (0, 3, "y")), cell_value(late, (0, 1, "n"))], [6, None])

    def test_kept_cells(self):
        late = (TWICE[0], TWICE[1], (("a", 0, None, 2, (8,)),), ((0, 1, "x", 4),), (1,))
        self.exactly([cell_value(late, (0, 1, "x")), read_cells(late, (0, 1, "x")), lets_late(late)], [4, (), (1, 2)])
        self.refused(GoneCell, {"cell": (0, 0, "x")}, cell_value, late, (0, 0, "x"))
        # what is prepared is not looked at
        late = (TWICE[0], TWICE[1], TWICE[2], ((0, 0, "x", 9), (0, 1, "x", 9)), ())
        self.exactly([cell_value(late, (0, v, "x")) for v in range(3)], [3, 4, 8])
        self.exactly(read_cells(late, (0, 1, "x")), ((0, 0, "x"),))
        late = (TWICE[0], TWICE[1], (("a", 0, None, 0, ("gone",)),), ((0, 0, "x", 3),), ())
        self.refused(GoneCell, {"cell": (0, 2, "x")}, cell_value, late, (0, 2, "x"))

    def test_links_to_dropped_objects(self):
        schema = (("a", (("n", "a"),)),)
        change = (("a", (("n", "a"),), (("to", ("n",)),)),)
        rows = (("a", 0, None, 0, (1,)), ("a", 0, 2, 0, (0,)))
        for changes in ((change, change), ((), ()), ((), change), (change, ())):
            late = (schema, changes, rows, (), ())
            self.exactly([cell_value(late, (0, v, "n")) for v in range(3)], [1, 1, None])
            self.exactly(lets_late(late), (2, 2))

    def test_asked_and_needed(self):
        self.exactly(asked(LATE), ((0, 1, "free"), (0, 1, "load"), (1, 1, "box"), (1, 1, "size"), (2, 1, "box"), (2, 1, "size")))
        self.exactly(needed(LATE), tuple(list(cells_of(LATE))))
        self.exactly(asked(CHAIN), ((0, 1, "n"), (0, 1, "x"), (0, 3, "n"), (0, 3, "y"), (2, 1, "n"), (2, 1, "x"),
                                    (3, 3, "n"), (3, 3, "y")))
        self.exactly(needed(CHAIN), ((0, 0, "n"), (0, 0, "x"), (0, 1, "n"), (0, 1, "x"), (0, 2, "n"), (0, 3, "n"), (0, 3, "y"),
                                     (1, 0, "x"), (2, 1, "n"), (2, 1, "x"), (3, 2, "n"), (3, 2, "x"), (3, 3, "n"), (3, 3, "y")))
        late = late_released(CHAIN, 1)
        self.exactly(asked(late), ((0, 3, "n"), (0, 3, "y"), (3, 3, "n"), (3, 3, "y")))
        self.exactly(needed(late), ((0, 0, "n"), (0, 1, "n"), (0, 2, "n"), (0, 3, "n"), (0, 3, "y"),
                                    (3, 2, "n"), (3, 2, "x"), (3, 3, "n"), (3, 3, "y")))

    def test_room(self):
        self.exactly([room(CHAIN), lets_late(CHAIN), room(late_released(CHAIN, 1))], [7, (4, 8), 3])
        self.exactly([room(LATER), room(converted(LATER, 0)), lets_late(forgotten(converted(LATER, 0)))], [7, 6, (3, 6)])
        # what is held and not needed needs no room, and prepared values neither
        late = (TWICE[0], TWICE[1], (("a", 0, None, 2, (8,)),), ((0, 1, "x", 4),), ())
        self.exactly([room(late), lets_late(late)], [1, (1, 2)])

    def test_many_versions(self):
        up = (("a", (("x", (0, 999)),), (("+", ("get", ("x",), 0), 1),)),)
        late = ((("a", (("x", (0, 999)),)),), (up,) * 500, (("a", 0, None, 0, (3,)),), (), (250,))
        self.exactly([cell_value(late, (0, 500, "x")), len(needed(late)), room(late), lets_late(late)], [503, 501, 1, (1, 1)])
        self.exactly(converted(late, 0)[3], ((0, 250, "x", 253),))

    def test_plain_store(self):
        self.exactly(plain_store(LATE), (schema_at(LATE, 1), 3, (
            (0, "crate", (5, 7)), (1, "item", (0, 3)), (2, "item", (0, 4)))))
        self.exactly(plain_store(CHAIN), (schema_at(CHAIN, 3), 4, ((0, "a", (None, 6)), (3, "a", (0, 0)))))
        self.exactly(plain_store(late=(SCHEMA, (CHANGE,), ROWS[:1], (), ()))[1:], (1, ((0, "crate", (5, 0)),)))


if __name__ == "__main__":
    unittest.main()
