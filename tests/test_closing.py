import random
import unittest

from lateforms.changes import changed, is_change, schema_after
from lateforms.closing import between, closed_up
from lateforms.errors import GoneCell, InvalidStep
from lateforms.latecells import asked, cell_value, cells_of, needed, plain_store, room, schema_at
from lateforms.latechecker import lets_late
from lateforms.latesteps import converted, forgotten, late_changed, late_made, late_pinned, late_released
from tests.lateruns import CHAIN, LATE, LATER, SCHEMA, TWICE, Run, all_cells, held_in, needed_in, reads_in, tellable_in, value_in
from tests.samples import ODD, Case

# nothing but the row of an object below, one above, and empty changes
WIDE = (SCHEMA, ((), (), (), ()), (("crate", 0, None, 0, (5,)), ("item", 4, None, 4, (0, 3))), (), ())
UP = (("item", (("box", "crate"), ("size", (0, 9))), (("to", ("box",)), ("+", ("get", ("size",), 0), 1))),)
FREE = (("crate", (("free", (0, 9)),), (("sum", "item", "box", "size"),)),)
DEEP = (("crate", (("free", (0, 9)),), (("if", ("<", 1, ("sum", "item", "box", "size")), 1, 2),)),)


def with_rows(late, *rows):
    return late[:2] + (rows,) + late[3:]


def with_changes(late, *changes):
    return late[:1] + (changes,) + late[2:]


class TestBetween(Case):
    """[61]"""

    def test_example(self):
        self.exactly([between(TWICE), cell_value(TWICE, (0, 2, "x")), cell_value(closed_up(TWICE, 1), (0, 1, "x"))], [(1,), 8, 8])
        self.refused(InvalidStep, {"step": ("close", 2), "word": "between"}, closed_up, TWICE, 2)

    def test_by_name(self):
        self.exactly(between(late=WIDE), (1, 2, 3))
        self.exactly(closed_up(version=1, late=TWICE), closed_up(TWICE, 1))

    def test_few_versions(self):
        for late in (LATE, LATER, (SCHEMA, (), (), (), ()), (SCHEMA, ((),), (), (), ())):
            self.exactly(between(late), ())
        self.exactly(between((SCHEMA, ((), ()), (), (), ())), (1,))

    def test_pins(self):
        self.exactly([between(WIDE[:4] + (pins,)) for pins in ((0,), (1,), (2,), (1, 3), (1, 2, 3))], [(1, 2, 3), (2, 3), (1, 3), (2,), ()])

    def test_rows(self):
        for version, left in ((1, (2, 3)), (2, (1, 3)), (3, (1, 2))):
            self.exactly(between(with_rows(WIDE, ("crate", 0, None, version, (5,)))), left)
            self.exactly(between(with_rows(WIDE, ("crate", 1, None, version, (5,)))), left)
            # also of an object that was dropped
            self.exactly(between(with_rows(WIDE, ("crate", 0, 4, version, (5,)))), left)
        # born in a version, but with a newer row
        self.exactly(between(with_rows(WIDE, ("crate", 2, None, 4, (5,)))), (1, 2, 3))

    def test_dropped(self):
        for version, left in ((1, (2, 3)), (2, (1, 3)), (3, (1, 2))):
            self.exactly(between(with_rows(WIDE, ("crate", 0, version, 0, (5,)))), left)
        for version in (0, 4):
            self.exactly(between(with_rows(WIDE, ("crate", 0, version, 0, (5,)))), (1, 2, 3))

    def test_kept(self):
        late = with_rows(WIDE, ("crate", 0, None, 4, (5,)))
        for version, left in ((0, (1, 2, 3)), (1, (2, 3)), (2, (1, 3)), (3, (1, 2))):
            self.exactly(between(late[:3] + (((0, version, "free", 5),), ())), left)
            # what is prepared, too
            self.exactly(between(WIDE[:3] + (((0, version, "free", 5),), ())), left)

    def test_sums(self):
        for change in (FREE, DEEP):
            self.exactly(between(with_changes(WIDE, change, (), (), ())), (2, 3))
            self.exactly(between(with_changes(WIDE, (), change, (), ())), (3,))
            self.exactly(between(with_changes(WIDE, (), (), (), change)), (1, 2))
            self.exactly(between(with_changes(WIDE, (), change, change, ())), ())
        self.exactly(between(with_changes(WIDE, UP, UP, UP, UP)), (1, 2, 3))
        self.exactly(between(with_changes(WIDE, (), FREE + UP, UP, UP)), (3,))
        self.exactly(between(with_changes(WIDE, (("a", (), None),), (), (), ())), (1, 2, 3))

    def test_refused(self):
        for version in (0, 4, 5, 2, -1, True, False, None, "1", (1,), [1], 10 ** 59, *ODD):
            late = WIDE[:4] + ((2,),)
            self.refused(InvalidStep, {"step": ("close", version), "word": "between"}, closed_up, late, version)
        for late, version in ((TWICE, 0), (TWICE, 2), (LATE, 1), (CHAIN, 1), (CHAIN, 2)):
            self.refused(InvalidStep, {"step": ("close", version), "word": "between"}, closed_up, late, version)


class TestClosedUp(Case):
    """[31], [61], [62], (C9)"""

    def test_numbers(self):
        late = (SCHEMA, (UP, UP, UP, ()), (
            ("crate", 0, 3, 0, (5,)), ("item", 0, 1, 0, (0, 3)), ("item", 2, None, 3, (None, 3)), ("item", 3, 4, 4, (None, 3)),
            ("crate", 2, 4, 3, (7,)), ("item", 0, None, 0, (0, 1)), ("item", 4, None, 4, (None, 1))),
            ((2, 2, "size", 2),), (1, 3))
        self.exactly(between(late), ())
        late = late[:3] + ((), (1, 3))
        self.exactly(between(late), (2,))
        after = closed_up(late, 2)
        self.exactly(after[2:], ((
            ("crate", 0, 2, 0, (5,)), ("item", 0, 1, 0, (0, 3)), ("item", 2, None, 2, (None, 3)), ("item", 2, 3, 3, (None, 3)),
            ("crate", 2, 3, 2, (7,)), ("item", 0, None, 0, (0, 1)), ("item", 3, None, 3, (None, 1))), (), (1, 2)))
        self.exactly([after[0], after[1][0], after[1][2:]], [SCHEMA, UP, ((),)])
        self.assertTrue(is_change(SCHEMA, after[1][1]))

    def test_kept_and_pins(self):
        late = (SCHEMA, (UP, (), (), ()), (("item", 0, None, 4, (None, 6)),), ((0, 0, "size", 5), (0, 3, "size", 6)), (3,))
        late = late[:4] + ((0, 3),)
        late = late[:3] + (((0, 0, "box", None), (0, 0, "size", 5), (0, 3, "box", None), (0, 3, "size", 6)), (0, 3))
        self.exactly(between(late), (1, 2))
        self.exactly(closed_up(late, 1)[2:], ((("item", 0, None, 3, (None, 6)),), (
            (0, 0, "box", None), (0, 0, "size", 5), (0, 2, "box", None), (0, 2, "size", 6)), (0, 2)))
        self.exactly(closed_up(closed_up(late, 2), 1)[3:], (
            ((0, 0, "box", None), (0, 0, "size", 5), (0, 1, "box", None), (0, 1, "size", 6)), (0, 1)))

    def test_classes_that_are_new(self):
        """A class that is new in the version that is closed up, and its object that was born there."""
        bag = (("bag", (("in", "crate"), ("n", (0, 3))), None),)
        more = (("bag", (("n", (0, 9)),), (("+", ("get", ("in", "free"), 0), ("get", ("n",), 0)),)),)
        late = late_made(late_changed((SCHEMA, (), (("crate", 0, None, 0, (5,)),), (), ()), bag), "bag", 0, 2)
        late = late_changed(late_changed(late, more), UP)
        self.exactly(between(late), (2,))
        late = forgotten(converted(late, 1))
        self.exactly([between(late), late[2]], [(1, 2), (("crate", 0, None, 0, (5,)), ("bag", 1, None, 3, (7,)))])
        self.exactly(cell_value(closed_up(late, 1), (1, 2, "n")), 7)
        late = forgotten(converted(late, 0))
        self.exactly(between(late), (1, 2))
        after = closed_up(late, 1)
        self.exactly([after[2], plain_store(after), between(after)], [
            (("crate", 0, None, 2, (5,)), ("bag", 1, None, 2, (7,))), plain_store(late), (1,)])
        self.exactly([closed_up(after, 1)[2], schema_at(closed_up(after, 1), 1)],
                     [(("crate", 0, None, 1, (5,)), ("bag", 1, None, 1, (7,))), schema_at(late, 3)])

    def test_runs(self):
        closed = 0
        for seed in range(250):
            run = Run(random.Random(seed), sums=seed % 3 == 0)
            for _ in range(run.rng.randint(10, 35)):
                run.step()
            for late in (run.late, forgotten(run.late), converted(run.late, *run.pending()), forgotten(converted(run.late, *run.pending()))):
                self.exactly(between(late), between_in(late))
                for version in between(late):
                    self.check_closed(run, late, version)
                    closed += 1
        self.assertGreater(closed, 100)

    def check_closed(self, run, late, version):
        after = closed_up(late, version)
        history = [plain for k, plain in enumerate(run.history) if k != version]
        lets_late(after)
        self.exactly(plain_store(after), run.history[-1])
        self.exactly([schema_at(after, k) for k in range(len(history))], [plain[0] for plain in history])
        moved = {cell: (cell[0], cell[1] - (cell[1] > version), cell[2]) for cell in all_cells(run.history) if cell[1] != version}
        self.exactly(list(cells_of(after)), list(moved.values()))
        for before, now in ((asked(late), asked(after)), (needed(late), needed(after)),
                            (held_in(late, run.history), held_in(after, history))):
            self.exactly(sorted(moved[cell] for cell in before if cell in moved), sorted(now))
        told = tellable_in(late, run.history)
        for cell, other in moved.items():
            if cell in told:
                self.exactly(cell_value(after, other), cell_value(late, cell))
            elif other in tellable_in(after, history):
                # it read what was gone in the version, and reads what is held below it
                self.exactly(cell_value(after, other), value_in(run.history, cell))
            else:
                self.refused(GoneCell, {"cell": other}, cell_value, after, other)
        self.exactly(room(after), room(late))
        if forgotten(late) == late:
            self.exactly(forgotten(after), after)
        self.exactly(after[4], tuple(pin - (pin > version) for pin in late[4]))
        # (the joined change leads from each store to the one that both lead to)
        for plain in run.history[version - 1:version]:
            self.exactly(changed(plain, after[1][version - 1]), changed(changed(plain, late[1][version - 1]), late[1][version]))
        # other versions that are between stay so
        self.exactly(between(after), tuple(v - (v > version) for v in between(late) if v != version))

    def test_any_order(self):
        """[62]: the order in which versions are closed up does not matter."""
        seen = 0
        for seed in range(250):
            run = Run(random.Random(seed), sums=False)
            for _ in range(run.rng.randint(10, 30)):
                run.step()
            late = run.late
            for pin in run.late[4]:
                late = late_released(late, pin)
            late = forgotten(converted(late, *run.pending()))
            if len(between(late)) < 2:
                continue
            seen += 1
            up, down = late, late
            while between(up):
                up, down = closed_up(up, between(up)[0]), closed_up(down, between(down)[-1])
            self.exactly(up[2:], down[2:])
            self.exactly([plain_store(up), needed(up), room(up)], [plain_store(down), needed(down), room(down)])
        self.assertGreater(seen, 5)

    def test_pinned_and_closed(self):
        late = late_pinned(late_pinned(late_pinned((SCHEMA, (), (("crate", 0, None, 0, (5,)),), (), ()))))
        self.exactly(between(late), ())
        self.exactly(between(late_released(late, 1)), (1,))
        self.exactly(closed_up(late_released(late, 1), 1), (SCHEMA, ((), ()), (("crate", 0, None, 0, (5,)),), (), (0, 1)))
        self.exactly(schema_after(SCHEMA, ()), SCHEMA)


def between_in(late):
    """The versions that are between, word by word."""
    schema, changes, rows, kept, pins = late
    return tuple(
        w for w in range(1, len(changes))
        if w not in pins and all(w not in (row[3], row[2]) for row in rows) and all(entry[1] != w for entry in kept)
        and "'sum'" not in repr(changes[w - 1:w + 1]))


class TestDepth(Case):
    """Changes that were joined often are deep; they still can be read and joined."""

    def test_many_joins(self):
        late = (TWICE[0], (), (("a", 0, None, 0, (3,)), ("a", 0, None, 0, (5,))), (), ())
        up = (("a", (("x", (0, 99)),), (("+", ("get", ("x",), 0), 1),)),)
        for k in range(40):
            late = forgotten(converted(late_changed(late, up), 1))
            while between(late):
                late = closed_up(late, between(late)[0])
        self.exactly([len(late[1]), plain_store(late)[2]], [1, ((0, "a", (43,)), (1, "a", (45,)))])
        self.exactly(reads_in(late, [(schema_at(late, k), 2, ((0, "a", (3,)), (1, "a", (5,)))) for k in range(2)], (0, 1, "x")),
                     ((0, 0, "x"),))
        self.exactly(needed_in(late, [(schema_at(late, k), 2, ((0, "a", (3,)), (1, "a", (5,)))) for k in range(2)]), list(needed(late)))


if __name__ == "__main__":
    unittest.main()
