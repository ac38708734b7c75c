import unittest

from lateforms.errors import InvalidPaper
from lateforms.latechecker import lets_late
from tests.lateruns import CHAIN, CHANGE, LATE, LATER, ROWS, SCHEMA, TWICE
from tests.samples import ODD, Case

BAD_ROW = ("item", 9, 9, 9, (0, 3, 5))
BAD_KEPT = (9, 9, "q", 99)


def row(late, n, *, cls=None, born=None, end=0, current=None, values=None):
    """The late store with a row in which something is different; end 0 leaves it as it is."""
    schema, changes, rows, kept, pins = late
    old = rows[n]
    new = (cls or old[0], old[1] if born is None else born, old[2] if end == 0 else end,
           old[3] if current is None else current, old[4] if values is None else values)
    return (schema, changes, rows[:n] + (new,) + rows[n + 1:], kept, pins)


def kept(late, *entries):
    return late[:3] + (entries, late[4])


def pins(late, *versions):
    return late[:4] + (versions,)


class TestLetsLate(Case):
    """[7], [45]"""

    def wrong(self, word, at, thing):
        self.refused(InvalidPaper, {"word": word, "at": at}, lets_late, thing)

    def test_example(self):
        self.exactly(lets_late(LATE), (3, 5))
        self.wrong("gone", (2, 0, "size"), (SCHEMA, (CHANGE,), ROWS[:2] + (("item", 0, None, 0, (0, "gone")),), (), ()))

    def test_accepted(self):
        self.exactly(lets_late(thing=LATER), (3, 7))
        self.exactly(lets_late(CHAIN), (4, 8))
        self.exactly(lets_late((SCHEMA, (), (), (), ())), (0, 0))
        self.exactly(lets_late((SCHEMA, ((), (), ()), (), (), (0, 1, 2))), (0, 0))
        # a row of the version in which its object was dropped has no cells
        dead = ("crate", 0, 1, 1, (5, 7))
        self.exactly(lets_late((SCHEMA, (CHANGE,), (dead,), (), ())), (1, 0))
        self.exactly(lets_late((SCHEMA, (CHANGE,), (dead,), ((0, 0, "free", 3),), ())), (1, 1))
        self.exactly(lets_late((SCHEMA, (CHANGE,), (("crate", 1, 1, 1, ("gone", 7)),), (), ())), (1, 0))
        # of a dropped object, what nobody needs may be gone
        self.exactly(lets_late((SCHEMA, (CHANGE,), (("crate", 0, 1, 0, ("gone",)),), (), ())), (1, 0))

    def test_shape(self):
        for thing in (*ODD, None, 5, (), [], LATE[:4], (*LATE, ()), [*LATE], (((),),) + LATE[1:], (5,) + LATE[1:]):
            self.wrong("shape", -1, thing)
        for k in range(1, 5):
            for part in (None, 5, [], "a", "", True, list(LATE[k])):
                self.wrong("shape", -1, LATE[:k] + (part,) + LATE[k + 1:])
        for bad in (None, 5, (), [], ROWS[0][:4], (*ROWS[0], 1), list(ROWS[0]), ("Crate", 0, None, 0, (5,)), (5, 0, None, 0, (5,)),
                    (None, 0, None, 0, (5,)), ("crate", -1, None, 0, (5,)), ("crate", True, None, 0, (5,)),
                    ("crate", None, None, 0, (5,)), ("crate", 0, -1, 0, (5,)), ("crate", 0, False, 0, (5,)),
                    ("crate", 0, "a", 0, (5,)), ("crate", 0, None, -1, (5,)), ("crate", 0, None, None, (5,)),
                    ("crate", 0, None, True, (5,)), ("crate", 0, None, 0, [5]), ("crate", 0, None, 0, 5), ("crate", 0, None, 0, None),
                    ("crate", 0, None, 0, (True,)), ("crate", 0, None, 0, ("Gone",)), ("crate", 0, None, 0, ("",)),
                    ("crate", 0, None, 0, ((),)), ("crate", 0, None, 0, (["gone"],))):
            self.wrong("shape", -1, (SCHEMA, (CHANGE,), (bad,), (), ()))
            self.wrong("shape", -1, (SCHEMA, (5,), ROWS + (bad,), (), ()))
        for bad in (None, 5, (), (0, 0, "free"), (0, 0, "free", 5, 5), [0, 0, "free", 5], (-1, 0, "free", 5), (True, 0, "free", 5),
                    (0, -1, "free", 5), (0, False, "free", 5), (0, None, "free", 5), (0, 0, "Free", 5), (0, 0, 5, 5),
                    (0, 0, None, 5), (0, 0, "free", True), (0, 0, "free", "gone"), (0, 0, "free", (5,)), ((0, 0, "free"), 5)):
            self.wrong("shape", -1, (SCHEMA, (5,), (BAD_ROW,), (bad,), (9,)))
        for bad in (None, -1, True, "a", (), (0,), [0]):
            self.wrong("shape", -1, (SCHEMA, (5,), (BAD_ROW,), (BAD_KEPT,), (0, bad)))

    def test_changes(self):
        for bad in (None, 5, [], "a", ((),), (("crate", (), None),), (("item", (("a", (0, 1)),), (("get", ("load",), 0),)),)):
            self.wrong("change", 0, (SCHEMA, (bad, 5), (BAD_ROW,), (BAD_KEPT,), (9,)))
            self.wrong("change", 1, (SCHEMA, ((), bad), (BAD_ROW,), (BAD_KEPT,), (9,)))
        # each is a change of the schema of its version
        late = (SCHEMA, (CHANGE, (("crate", (), ()),), CHANGE), (), (), ())
        self.wrong("change", 2, late)
        self.wrong("change", 1, (SCHEMA, ((("bag", (), None),), (("bag", (), None),)), (), (), ()))
        self.exactly(lets_late((SCHEMA, ((("bag", (), None),), (("bag", (), ()),)), (), (), ())), (0, 0))

    def test_class(self):
        last = kept(pins(LATE, 9), BAD_KEPT)
        for n in range(3):
            self.wrong("class", n, row(last, n, born=2, end=7, current=9, values=()))
            self.wrong("class", n, row(last, n, cls="bag"))
        # the class has to exist in the version born
        late = (SCHEMA, ((("bag", (), None),),), (("bag", 1, None, 1, ()),), (), ())
        self.exactly(lets_late(late), (1, 0))
        self.wrong("class", 0, row(late, 0, born=0))

    def test_dropped(self):
        last = kept(pins(LATE, 9), BAD_KEPT)
        for n in range(3):
            self.wrong("dropped", n, row(last, n, end=2, current=9, values=()))
        self.wrong("dropped", 3, CHAIN[:2] + (CHAIN[2][:3] + (("a", 2, 1, 9, ()),),) + CHAIN[3:])
        self.wrong("dropped", 3, CHAIN[:2] + (CHAIN[2][:3] + (("a", 2, 4, 2, ()),),) + CHAIN[3:])

    def test_version(self):
        self.wrong("version", 0, row(LATE, 0, current=2, values=()))
        self.wrong("version", 3, row(CHAIN, 3, current=1, values=()))
        self.wrong("version", 3, row(CHAIN, 3, current=4))
        self.wrong("version", 1, row(CHAIN, 1, current=2))
        self.wrong("version", 2, row(CHAIN, 2, current=3))
        self.exactly(lets_late(pins(row(CHAIN, 2, current=2, values=(0, 8)))), (4, 6))
        self.wrong("version", 0, row(kept(pins(LATE, 9), BAD_KEPT), 0, current=2, values=()))

    def test_many(self):
        for values in ((), (5, 7), ("gone", "gone")):
            self.wrong("many", 0, row(kept(pins(LATE, 9), BAD_KEPT), 0, values=values))
        self.wrong("many", 0, row(LATE, 0, current=1, values=(5,)))
        self.exactly(lets_late(row(LATE, 0, current=1, values=(5, 7))), (3, 6))
        self.wrong("many", 2, row(LATE, 2, values=(99,)))

    def test_value(self):
        for value in (-1, 10, None):
            self.wrong("value", (0, 0), row(kept(pins(LATE, 9), BAD_KEPT), 0, values=(value,)))
            self.wrong("value", (2, 1), row(LATE, 2, values=(0, value)))
        for value in (-1, 1, 2, 3, 99):
            self.wrong("value", (1, 0), row(LATE, 1, values=(value, 99)))
        self.exactly(lets_late(row(LATE, 1, values=(None, 3))), (3, 5))
        self.wrong("value", (1, 1), row(LATE, 1, values=(None, 99)))
        self.wrong("value", (1, 1), row(row(LATE, 1, values=("gone", 99)), 2, values=(7, 7)))

    def test_links(self):
        base = (CHAIN[0], CHAIN[1], tuple(("a", born, end, current, (None, 3)) for born, end, current in (
            (0, None, 0), (0, 1, 0), (0, 2, 1), (2, None, 2), (1, None, 2))), (), ())
        # (row, links that it can have): born in the version of the row or before, and not dropped in it or before
        for n, right in ((0, (0, 1, 2)), (1, (0, 1, 2)), (2, (0, 2, 4)), (3, (0, 3, 4)), (4, (0, 3, 4))):
            for value in range(-1, 6):
                late = row(base, n, values=(value, 3))
                if value in right:
                    self.assertEqual(lets_late(late)[0], 5)
                else:
                    self.wrong("value", (n, 0), late)
        # by the row as it is written, whatever is wrong with it
        self.wrong("class", 4, row(row(base, 0, values=(1, 3)), 4, born=9))
        self.wrong("value", (0, 0), row(row(base, 0, values=(4, 3)), 4, born=9))
        self.wrong("dropped", 4, row(row(base, 0, values=(1, 3)), 4, born=0, end=9))
        self.wrong("dropped", 4, row(row(base, 0, values=(4, 3)), 4, born=0, end=9))
        self.wrong("many", 4, row(row(base, 2, values=(4, 3)), 4, values=()))
        self.wrong("value", (2, 0), row(row(base, 2, values=(4, 3)), 4, cls="b"))

    def test_kept(self):
        for entry in ((3, 0, "free", 5), (0, 0, "load", 5), (0, 0, "q", 5), (0, 2, "free", 5), (0, 1, "free", 5),
                      (0, 1, "free", 99), (9, 9, "free", 99)):
            self.wrong("kept", 0, kept(LATE, entry))
            self.wrong("kept", 0, kept(pins(LATE, 9), entry, BAD_KEPT))
        self.wrong("kept", 1, kept(LATER, LATER[3][0], LATER[3][0]))
        self.wrong("kept", 1, kept(LATER, *LATER[3][::-1]))
        self.wrong("kept", 1, kept(LATER, LATER[3][1], (1, 0, "box", 99)))
        self.wrong("kept", 2, kept(LATER, *LATER[3], (0, 0, "free", 5)))
        # objects that were dropped, or not born yet
        self.wrong("kept", 0, kept(CHAIN, (1, 1, "x", 4)))
        self.wrong("kept", 0, kept(CHAIN, (3, 1, "x", 4)))
        self.exactly(lets_late(kept(CHAIN, (2, 0, "x", 8))), (4, 9))

    def test_fits(self):
        for value in (-1, 10, None):
            self.wrong("fits", 1, kept(pins(LATER, 9), LATER[3][0], (1, 0, "size", value)))
        for value in (-1, 1, 2, 3):
            self.wrong("fits", 0, kept(LATER, (1, 0, "box", value), LATER[3][1], BAD_KEPT))
        self.exactly(lets_late(kept(LATER, (1, 0, "box", None), LATER[3][1])), (3, 7))
        # by the version of the cell
        for value, right in ((0, True), (1, True), (2, True), (3, False), (4, False)):
            if right:
                self.exactly(lets_late(kept(CHAIN, (2, 0, "n", value))), (4, 9))
            else:
                self.wrong("fits", 0, kept(CHAIN, (2, 0, "n", value)))
        self.exactly(lets_late(kept(CHAIN, (2, 0, "x", 9))), (4, 9))
        self.wrong("fits", 0, kept(CHAIN, (2, 0, "x", 10)))

    def test_pins(self):
        gone = row(LATE, 0, values=("gone",))
        for late in (LATE, gone):
            self.wrong("pin", 0, pins(late, 1))
            self.wrong("pin", 0, pins(late, 9))
            self.wrong("pin", 1, pins(late, 0, 0))
            self.wrong("pin", 1, pins(late, 0, 1))
        self.wrong("pin", 1, pins(CHAIN, 2, 1))
        self.wrong("pin", 2, pins(CHAIN, 0, 2, 2, 9))
        self.wrong("pin", 0, pins((SCHEMA, (), (), (), ()), 0))

    def test_gone(self):
        self.wrong("gone", (0, 0, "free"), row(LATE, 0, values=("gone",)))
        self.wrong("gone", (0, 0, "free"), row(row(LATE, 0, values=("gone",)), 1, values=("gone", "gone")))
        self.wrong("gone", (1, 0, "box"), row(row(LATE, 1, values=("gone", "gone")), 2, values=("gone", "gone")))
        self.wrong("gone", (0, 1, "load"), row(LATE, 0, current=1, values=(5, "gone")))
        self.wrong("gone", (1, 0, "size"), kept(LATER, LATER[3][0]))
        # nothing behind the first read that is gone is looked at
        self.exactly(lets_late(ORDERED), (2, 3))
        late = row(ORDERED, 0, values=("gone",))
        self.wrong("gone", (0, 0, "a"), late)
        self.wrong("gone", (1, 0, "b"), row(late, 1, values=("gone", 0)))
        self.wrong("gone", (1, 0, "l"), row(late, 1, values=(5, "gone")))
        self.wrong("gone", (1, 0, "b"), row(late, 1, values=("gone", "gone")))
        # a pin asks for more
        released = row(row(CHAIN, 2, values=("gone", "gone")), 0, values=(1, 3))
        self.exactly(lets_late(pins(row(released, 1, values=("gone", "gone")))), (4, 4))
        self.wrong("gone", (2, 1, "n"), released)
        self.wrong("gone", (1, 0, "x"), row(released, 1, values=("gone", "gone")))
        # what cannot be computed is not gone itself
        late = (TWICE[0], TWICE[1], (("a", 0, None, 0, ("gone",)),), (), ())
        self.wrong("gone", (0, 0, "x"), late)
        self.wrong("gone", (0, 1, "x"), (TWICE[0], TWICE[1], (("a", 0, None, 2, (3,)),), (), (1,)))

    def test_behind_a_gone_read(self):
        # the sum ends at the first link that is gone, so what it would read behind that is not needed
        items = (("crate", 0, None, 1, (5, 7)), ("item", 0, None, 0, ("gone", 3)), ("item", 0, None, 0, (0, 4)))
        self.wrong("gone", (1, 0, "box"), (SCHEMA, (CHANGE,), items, (), ()))
        dropped = (("crate", 0, None, 0, (5,)), ("item", 0, 1, 0, ("gone", 3)), ("item", 0, 1, 0, (0, "gone")))
        self.wrong("gone", (1, 0, "box"), (SCHEMA, (CHANGE,), dropped, (), ()))
        dropped = (("crate", 0, None, 0, (5,)), ("item", 0, 1, 0, (0, 3)), ("item", 0, 1, 0, (0, "gone")))
        self.wrong("gone", (2, 0, "size"), (SCHEMA, (CHANGE,), dropped, (), ()))
        dropped = (("crate", 0, None, 0, (5,)), ("item", 0, 1, 0, (0, 3)), ("item", 0, 1, 0, (None, "gone")))
        self.exactly(lets_late((SCHEMA, (CHANGE,), dropped, (), ())), (3, 4))

    def test_prepared(self):
        for value in (0, 2, 4, 9):
            self.wrong("prepared", 0, kept(TWICE, (0, 0, "x", value)))
        for value in (0, 3, 5, 8):
            self.wrong("prepared", 1, kept(TWICE, (0, 0, "x", 3), (0, 1, "x", value)))
        self.exactly(lets_late(kept(TWICE, (0, 0, "x", 3), (0, 1, "x", 4))), (1, 1))
        # gone, and cannot be computed
        late = pins(row(CHAIN, 2, values=("gone", "gone")))
        self.wrong("prepared", 0, kept(late, (2, 1, "x", 8)))
        self.exactly(lets_late(kept(late, (2, 0, "x", 8))), (4, 7))
        late = pins(row(row(CHAIN, 2, values=("gone", "gone")), 1, values=("gone", "gone")))
        self.wrong("prepared", 0, kept(late, (0, 1, "x", 7)))
        self.wrong("prepared", 1, kept(late, (0, 1, "n", None), (0, 2, "x", 7)))
        self.exactly(lets_late(kept(late, (0, 1, "n", None))), (4, 4))
        self.wrong("prepared", 0, kept(late, (0, 1, "n", 0)))
        # a link
        self.wrong("prepared", 0, kept(LATE, (1, 0, "box", None)))
        self.exactly(lets_late(kept(LATE, (1, 0, "box", 0))), (3, 5))

    def test_order(self):
        everything = (SCHEMA, (5,), (BAD_ROW,), (BAD_KEPT,), (9, 9))
        self.wrong("change", 0, everything)
        self.wrong("class", 0, everything[:1] + ((),) + everything[2:])
        self.wrong("kept", 0, (SCHEMA, (CHANGE,), row(LATE, 0, values=("gone",))[2], (BAD_KEPT,), (9, 9)))
        self.wrong("pin", 0, pins(row(kept(LATE, (1, 0, "box", None)), 0, values=("gone",)), 9))
        self.wrong("gone", (0, 0, "free"), row(kept(LATE, (1, 0, "box", None)), 0, values=("gone",)))
        # of one row all errors before the next one
        self.wrong("value", (0, 0), row(row(LATE, 0, values=(99,)), 1, born=9))
        self.wrong("class", 0, row(row(LATE, 0, cls="bag", born=5), 1, born=9))


# 1 reads its own number first, then its link, and then the number of 0, which was dropped
ORDERED = (
    (("p", (("a", (0, 9)),)), ("q", (("b", (0, 9)), ("l", "p")))),
    ((("q", (("b", (0, 9)),), (("+", ("get", ("b",), 0), ("get", ("l", "a"), 0)),)),),),
    (("p", 0, 1, 0, (4,)), ("q", 0, None, 0, (5, 0))), (), (),
)


if __name__ == "__main__":
    unittest.main()
