import itertools
import random
import unittest

from lateforms.changes import changed
from lateforms.errors import GoneCell, InvalidPaper, InvalidStep, UnknownObject
from lateforms.latecells import cell_value, plain_store, room, schema_at
from lateforms.latechecker import lets_late
from lateforms.latesteps import (
    converted, forgotten, late_changed, late_dropped, late_made, late_pinned, late_released, late_written,
)
from lateforms.plainsteps import dropped, made, written
from tests.lateruns import CHAIN, CHANGE, LATE, LATER, ROWS, SCHEMA, TWICE, Run
from tests.samples import ODD, Case

NO_OBJECTS = (3, -1, 99, None, True, False, "a", "0", (0,), [0], *ODD)


class TestExample(Case):
    """The example of the interface, and [54]"""

    def test_example(self):
        self.exactly([LATER[2][1], LATER[3]], [("item", 0, None, 1, (0, 9)), ((1, 0, "box", 0), (1, 0, "size", 3))])
        self.exactly([cell_value(LATER, (0, 1, "load")), forgotten(LATER) == LATER], [7, True])
        self.exactly(forgotten(converted(LATER, 0))[2:4], (
            (("crate", 0, None, 1, (5, 7)), ("item", 0, None, 1, (0, 9)), ("item", 0, None, 0, (0, 4))), ()))
        self.refused(GoneCell, {"cell": (1, 0, "size")}, cell_value, forgotten(converted(LATER, 0)), (1, 0, "size"))

    def test_what_a_conversion_keeps(self):
        """[54]"""
        self.exactly(cell_value(LATER, (0, 1, "load")), 7)
        self.exactly(converted(LATER, 0)[3], LATER[3])
        self.exactly(forgotten(converted(LATER, 0))[3], ())

    def test_by_name(self):
        self.exactly(late_written(value=9, field="size", number=1, late=LATE), LATER)
        self.exactly(late_dropped(number=1, late=LATE), late_dropped(LATE, 1))
        self.exactly(late_changed(change=(), late=LATE), late_changed(LATE, ()))
        self.exactly(late_pinned(late=LATE), late_pinned(LATE))
        self.exactly(late_released(version=1, late=CHAIN), late_released(CHAIN, 1))
        self.exactly(forgotten(late=LATER), LATER)


class TestSteps(Case):
    """[25], [48]"""

    def test_made(self):
        after = late_made(LATE, "item", None, 7)
        self.exactly(after, LATE[:2] + ((*ROWS, ("item", 1, None, 1, (None, 7))), (), ()))
        self.exactly(plain_store(after), made(plain_store(LATE), "item", None, 7))
        self.exactly(late_made((SCHEMA, (), (), (), ()), "crate", 9), (SCHEMA, (), (("crate", 0, None, 0, (9,)),), (), ()))
        self.exactly(late_made(CHAIN, "a", 3, 99)[2][4], ("a", 3, None, 3, (3, 99)))
        for cls in ("bag", "Item", None, 5, ("item",), ["item"], True):
            self.refused(InvalidStep, {"step": ("make", cls, (None, 7)), "word": "class"}, late_made, LATE, cls, None, 7)
            self.refused(InvalidStep, {"step": ("make", cls, ()), "word": "class"}, late_made, LATE, cls)
        for values in ((), (None,), (None, 10), (None, -1), (None, True), (None, "gone"), (1, 7), (3, 7), (-1, 7), (True, 7),
                       (None, None), (None, 7, 7), ("gone", 7), ([], 7)):
            self.refused(InvalidStep, {"step": ("make", "item", values), "word": "values"}, late_made, LATE, "item", *values)
        # the forms are those of now, and links do not lead to dropped objects
        self.refused(InvalidStep, {"step": ("make", "crate", (5,)), "word": "values"}, late_made, LATE, "crate", 5)
        for number in (1, 2, 4):
            self.refused(InvalidStep, {"step": ("make", "a", (number, 5)), "word": "values"}, late_made, CHAIN, "a", number, 5)

    def test_written(self):
        self.exactly(late_written(LATER, 1, "size", 2)[2:4], ((ROWS[0], ("item", 0, None, 1, (0, 2)), ROWS[2]), LATER[3]))
        self.exactly(late_written(LATE, 2, "box", None)[2:4], (
            (ROWS[0], ROWS[1], ("item", 0, None, 1, (None, 4))), ((2, 0, "box", 0), (2, 0, "size", 4))))
        # a pending object is converted, also if the value is the one that it has
        self.exactly(late_written(LATE, 0, "load", 7), converted(LATE, 0))
        self.exactly(late_written(LATE, 0, "load", 9)[2][0], ("crate", 0, None, 1, (5, 9)))
        self.exactly(late_written(CHAIN, 3, "n", 3)[2][3], ("a", 2, None, 3, (3, 0)))

    def test_written_errors(self):
        for number in NO_OBJECTS:
            self.refused(UnknownObject, {"number": number}, late_written, LATE, number, "q", 99)
        for number in (1, 2):
            self.refused(UnknownObject, {"number": number}, late_written, CHAIN, number, "n", None)
        for field in ("q", "load", None, 5, ["size"], ("size",), True):
            self.refused(InvalidStep, {"step": ("write", 1, field, 99), "word": "field"}, late_written, LATE, 1, field, 99)
        self.refused(InvalidStep, {"step": ("write", 0, "x", 1), "word": "field"}, late_written, CHAIN, 0, "x", 1)
        for value in (10, -1, None, True, "gone", (5,), [5]):
            self.refused(InvalidStep, {"step": ("write", 1, "size", value), "word": "value"}, late_written, LATE, 1, "size", value)
        for value in (1, 2, 3, -1, False, "gone", (0,)):
            self.refused(InvalidStep, {"step": ("write", 1, "box", value), "word": "value"}, late_written, LATE, 1, "box", value)
        for value in (1, 2):
            self.refused(InvalidStep, {"step": ("write", 0, "n", value), "word": "value"}, late_written, CHAIN, 0, "n", value)

    def test_dropped(self):
        after = late_dropped(LATE, 0)
        self.exactly(after, LATE[:2] + ((("crate", 0, 1, 0, (5,)),) + ROWS[1:], (), ()))
        self.exactly(plain_store(after), dropped(plain_store(LATE), 0))
        # in rows of the newest version links become None, in pending ones they stay and are None now
        after = late_dropped(LATER, 0)
        self.exactly(after[2], (("crate", 0, 1, 0, (5,)), ("item", 0, None, 1, (None, 9)), ROWS[2]))
        self.exactly([after[3], cell_value(after, (2, 1, "box")), cell_value(after, (2, 0, "box"))], [LATER[3], None, 0])
        for number in NO_OBJECTS:
            self.refused(UnknownObject, {"number": number}, late_dropped, LATE, number)
        for number in (1, 2):
            self.refused(UnknownObject, {"number": number}, late_dropped, CHAIN, number)

    def test_dropped_in_all_rows(self):
        schema = (("a", (("n", "a"), ("x", (0, 9)))),)
        rows = (("a", 0, None, 1, (0, 1)), ("a", 0, None, 1, (0, 0)), ("a", 0, 1, 1, (0, 2)), ("a", 0, 1, 1, ("gone", "gone")),
                ("a", 0, None, 0, (0, 3)), ("a", 0, 1, 0, (0, 4)))
        late = (schema, ((),), rows, ((0, 0, "n", 0),), (0,))
        after = late_dropped(late, 0)
        self.exactly(after[2], (
            ("a", 0, 1, 1, (None, 1)), ("a", 0, None, 1, (None, 0)), ("a", 0, 1, 1, (None, 2)), ("a", 0, 1, 1, ("gone", "gone")),
            ("a", 0, None, 0, (0, 3)), ("a", 0, 1, 0, (0, 4))))
        self.exactly(after[3:], late[3:])

    def test_changed(self):
        self.exactly(late_changed(LATE, ()), (SCHEMA, (CHANGE, ()), ROWS, (), ()))
        again = (("crate", (("load", (0, 9)),), (("get", ("load",), 0),)),)
        after = late_changed(LATE, again)
        self.exactly(after, (SCHEMA, (CHANGE, again), ROWS, (), ()))
        self.exactly(plain_store(after), changed(plain_store(LATE), again))
        for thing, word, at in ((5, "shape", -1), (None, "shape", -1), ((5,), "shape", -1), ((("bag", (), ()),), "new", 0),
                                ((("crate", (), None),), "new", 0), ((("crate", (), (1,)),), "many", 0),
                                ((("crate", (("q", "bag"),), (None,)),), "link", (0, 0)),
                                ((("crate", (("q", (0, 1)),), (("get", ("size",), 0),)),), "fit", (0, 0)),
                                ((*again, *again), "class", 1)):
            self.refused(InvalidPaper, {"word": word, "at": at}, late_changed, LATE, thing)
        self.refused(InvalidPaper, {"word": "fit", "at": (0, 0)}, late_changed, LATE[:1] + ((),) + LATE[2:], again)

    def test_pins(self):
        after = late_pinned(LATE)
        self.exactly(after, (SCHEMA, (CHANGE, ()), ROWS, (), (1,)))
        self.exactly(late_pinned(after), (SCHEMA, (CHANGE, (), ()), ROWS, (), (1, 2)))
        self.exactly(late_pinned((SCHEMA, (), (), (), ())), (SCHEMA, ((),), (), (), (0,)))
        twice = late_pinned(after)
        self.exactly([late_released(twice, 1)[4], late_released(twice, 2)[4], late_released(twice, 1)[:4]], [(2,), (1,), twice[:4]])
        for version in (0, 3, -1, None, True, "1", (1,), [1], *ODD):
            self.refused(InvalidStep, {"step": ("release", version), "word": "pin"}, late_released, twice, version)
        zero = late_pinned((SCHEMA, (), (), (), ()))
        self.refused(InvalidStep, {"step": ("release", False), "word": "pin"}, late_released, zero, False)
        self.refused(InvalidStep, {"step": ("release", 0), "word": "pin"}, late_released, late_released(zero, 0), 0)


class TestConverted(Case):
    """[7], [48]"""

    def test_errors(self):
        for number in NO_OBJECTS:
            self.refused(UnknownObject, {"number": number}, converted, LATE, number)
            self.refused(UnknownObject, {"number": number}, converted, LATE, 0, 1, 0, number, 99)
        for number in (1, 2):
            self.refused(UnknownObject, {"number": number}, converted, CHAIN, 0, number, True)

    def test_nothing_to_do(self):
        self.exactly(converted(LATE), LATE)
        self.exactly(converted(LATER, 1), LATER)
        self.exactly(converted(LATER, 1, 1, 1), LATER)

    def test_twice_and_in_any_order(self):
        self.exactly(converted(LATE, 1, 1), converted(LATE, 1))
        for order in itertools.permutations((0, 1, 2)):
            late = LATE
            for number in order:
                late = converted(late, number)
            self.exactly(converted(LATE, *order), late)
            self.exactly(converted(LATE, *order, *order[::-1]), late)
            self.exactly(forgotten(late), (SCHEMA, (CHANGE,), (
                ("crate", 0, None, 1, (5, 7)), ("item", 0, None, 1, (0, 3)), ("item", 0, None, 1, (0, 4))), (), ()))
        # the crate first: nobody reads the old items then, and nothing is kept
        self.exactly(converted(LATE, 0, 1, 2)[3], ())
        self.exactly(converted(LATE, 1, 0)[3], ((1, 0, "box", 0), (1, 0, "size", 3)))

    def test_over_several_versions(self):
        self.exactly(converted(TWICE, 0)[2:], ((("a", 0, None, 2, (8,)),), (), ()))
        pinned = TWICE[:4] + ((1,),)
        self.exactly(converted(pinned, 0)[2:], ((("a", 0, None, 2, (8,)),), ((0, 1, "x", 4),), (1,)))
        pinned = TWICE[:4] + ((0, 1),)
        self.exactly(converted(pinned, 0)[3], ((0, 0, "x", 3), (0, 1, "x", 4)))
        # 0 in version 1 is asked; 3 does not read the x of 0 in version 2, but its link
        self.exactly(converted(CHAIN, 0)[3], ((0, 1, "n", None), (0, 1, "x", 7), (0, 2, "n", None)))
        self.exactly(converted(CHAIN, 3)[3], ((3, 2, "n", 0), (3, 2, "x", 6)))

    def test_what_is_kept_stays(self):
        late = TWICE[:3] + (((0, 0, "x", 3), (0, 1, "x", 4)), ())
        self.exactly(converted(late, 0)[3], late[3])
        self.exactly(forgotten(late), TWICE)
        self.exactly(forgotten(converted(late, 0)), converted(TWICE, 0))
        late = TWICE[:3] + (((0, 1, "x", 4),), (0,))
        self.exactly(converted(late, 0)[3], ((0, 0, "x", 3), (0, 1, "x", 4)))


class TestForgotten(Case):
    """[7], [47], [48]"""

    def test_rows(self):
        late = late_released(CHAIN, 1)
        self.exactly(forgotten(CHAIN), CHAIN[:2] + ((
            CHAIN[2][0], ("a", 0, 1, 0, ("gone", 4)), CHAIN[2][2], CHAIN[2][3]), (), (1,)))
        self.exactly(forgotten(late), CHAIN[:2] + ((
            ("a", 0, None, 0, (1, "gone")), ("a", 0, 1, 0, ("gone", "gone")), ("a", 0, 2, 1, ("gone", "gone")), CHAIN[2][3]), (), ()))
        self.exactly([room(late), lets_late(forgotten(late))], [3, (4, 3)])
        # values in the version in which an object was dropped are no cells
        dead = (SCHEMA, (CHANGE,), (("crate", 0, 1, 1, (5, 7)),), (), ())
        self.exactly(forgotten(dead)[2], (("crate", 0, 1, 1, ("gone", "gone")),))

    def test_nothing_else_forgets(self):
        late = converted(LATER, 0)
        for after in (late_made(late, "crate", 0, 0), late_written(late, 2, "size", 0), late_dropped(late, 1),
                      late_changed(late, ()), late_pinned(late), late_released(late_pinned(late), 1), converted(late, 2)):
            self.assertLessEqual(set(LATER[3]), set(after[3]))
            self.assertNotIn("gone", str(after))

    def test_prepared_and_not_needed(self):
        late = TWICE[:2] + ((("a", 0, None, 1, (4,)),), ((0, 0, "x", 3), (0, 1, "x", 4)), (0,))
        self.exactly(forgotten(late)[3], ((0, 0, "x", 3),))
        self.exactly(forgotten(late_released(late, 0))[3], ())

    def test_all_in_any_order(self):
        """(C3), [53]"""
        for seed in range(25):
            run = Run(random.Random(seed))
            for _ in range(25):
                run.step()
            left = forgotten(converted(run.late, *run.pending()))
            for order in itertools.islice(itertools.permutations(run.pending()), 24):
                late = run.late
                for k, number in enumerate(order):
                    late = converted(late, number)
                    late = forgotten(late) if (seed >> k) & 1 else late
                    self.exactly(plain_store(late), run.history[-1])
                self.exactly(forgotten(late), left)

    def test_plain_stores_behind_steps(self):
        """[53]"""
        for seed in range(40):
            run = Run(random.Random(seed))
            for _ in range(15):
                run.step()
            late, plain = run.late, run.history[-1]
            for after in (late_pinned(late), forgotten(late), *[late_released(late, pin) for pin in late[4]]):
                self.exactly(plain_store(after), plain)
            for number in run.living():
                self.exactly(plain_store(converted(late, number)), plain)
                self.exactly(plain_store(late_dropped(late, number)), dropped(plain, number))
            change = run.some_change()
            self.exactly(plain_store(late_changed(late, change)), changed(plain, change))
            self.exactly(schema_at(late_changed(late, change), len(late[1])), plain[0])
            for number, cls, values in plain[2]:
                for (field, _), value in zip(dict(plain[0])[cls], values):
                    self.exactly(plain_store(late_written(late, number, field, value)), written(plain, number, field, value))


if __name__ == "__main__":
    unittest.main()
