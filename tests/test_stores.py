import inspect
import random
import unittest

from lateforms.closing import between
from lateforms.errors import InvalidPace, InvalidStep, InvalidText, NothingToUndo, UnknownObject
from lateforms.latecells import fresh_late, needed, plain_store, room
from lateforms.latechecker import lets_late
from lateforms.latesteps import forgotten
from lateforms.replaying import replayed
from lateforms.steprows import log_rows, step_row
from lateforms.stores import Store
from tests.lateruns import CHANGE, SCHEMA, all_cells, held_in, needed_in, value_in
from tests.samples import ODD, Case
from tests.storeruns import C, S, WORDS, StoreRun, odd_step, word_in

NO_NUMBERS = (2, 3, -1, 99, None, True, False, "0", (0,), [0], "a", 10 ** 59, *ODD)
NO_NAMES = ("eve", "", "Noon", "noonnoonnoon", "no on", "noon\n", None, 0, True, ("noon",), ["noon"], *ODD)
# a step of each kind that can be done behind the one before, and its answer
DONE = (
    (("make", "crate", (5,)), 0), (("make", "item", (0, 3)), 1), (("make", "item", (None, 4)), 2), (("write", 2, "box", 0), None),
    (("change", CHANGE), 1), (("touch", (2, 0)), (2, 0)), (("keep", "noon"), 1), (("write", 1, "size", 9), None), (("drop", 2), None),
    (("sweep", 1), (0,)), (("pace", 2), None), (("change", ()), 3), (("change", ()), 4), (("release", "noon"), None), (("close",), 1),
    (("sweep", 9), ()),
)


def done(steps=DONE, schema=SCHEMA):
    store = Store(schema)
    for step, _ in steps:
        store.go(step)
    return store


class TestExample(Case):
    """The example of the interface."""

    def test_example(self):
        store = Store(S)
        self.exactly([store.make("item", None, 3), store.make("item", 0, 4), store.change(C), store.plain()],
                     [0, 1, 1, ((("item", (("y", (0, 20)),)),), 2, ((0, "item", (3,)), (1, "item", (7,))))])
        self.exactly([store.pending(), store.room(), store.touch(1), store.room(), store.pending(), store.value_of(0, "y")],
                     [(0, 1), 4, (1,), 3, (0,), 3])
        self.exactly([store.keep("noon"), store.write(0, "y", 9), store.was("noon", 0, "y"), store.value_of(0, "y"), store.version],
                     [1, None, 3, 9, 2])
        self.exactly([store.release("noon"), store.sweep(5), store.room(), store.close_up(), store.version, store.plain()[2]],
                     [None, (1,), 2, 1, 1, ((0, "item", (9,)), (1, "item", (7,)))])
        self.refused(InvalidStep, {"step": ("make", "item", (21,)), "word": "values"}, store.make, "item", 21)


class TestFresh(Case):
    """[64], [69]"""

    def test_fresh(self):
        store = Store(schema=SCHEMA)
        self.exactly([store.first_schema, store.schema, store.version, store.late, store.snapshots, store.pace],
                     [SCHEMA, SCHEMA, 0, fresh_late(SCHEMA), (), 0])
        self.exactly([store.plain(), store.pending(), store.is_swept(), store.room(), store.needed()], [(SCHEMA, 0, ()), (), True, 0, ()])
        self.exactly([len(store), list(store.walk()), str(store), store.log(), store.counts(), store.table()], [0, [], "-", (), (0, 0), []])
        self.exactly([Store.OBJECTS, Store.CHANGES, store.OBJECTS, store.CHANGES], [8, 5, 8, 5])

    def test_not_iterated(self):
        store = done()
        with self.assertRaises(TypeError):
            iter(store)
        with self.assertRaises(TypeError):
            list(store)

    def test_two_stores(self):
        one, other = Store(S), Store(S)
        one.make("item", None, 3)
        one.keep("noon")
        one.pace = 2
        self.exactly([len(other), other.snapshots, other.pace, other.log(), other.counts()], [0, (), 0, (), (0, 0)])


class TestSteps(Case):
    """[64], [65]: each kind of step, its answer, and what it does."""

    def test_answers(self):
        for way in (Store.go, Store.__call__, by_method):
            store = Store(SCHEMA)
            for k, (step, answer) in enumerate(DONE):
                self.exactly(store.barred(step), None)
                self.exactly(way(store, step), answer)
                self.exactly([store.log(), store.counts()], [tuple(step for step, _ in DONE[:k + 1]), (k + 1, k + 1)])
            self.exactly(store.late, done().late)

    def test_by_name(self):
        store = Store(S)
        self.exactly([store.make("item", None, 3), store.go(step=("make", "item", (0, 4))), store.write(value=5, field="x", number=0)], [0, 1, None])
        self.exactly([store.change(thing=C), store.keep(name="noon"), store.sweep(most=1), store.release(name="noon"), store.drop(number=1)],
                     [1, 1, (0,), None, None])
        self.exactly([store.barred(step=("drop", 1)), store.value_of(field="y", number=0), store.object_of(number=0)], ["number", 5, ("item", (5,))])
        self.exactly([store.set_pace(value=2), store.pace, store(step=("pace", 0)), store.pace], [None, 2, None, 0])
        self.exactly([store.keep("noon"), store.was(field="y", number=0, name="noon"), store.sweep(), store.close_up()], [2, 5, (0,), 1])
        self.exactly(store.do_all(("drop", 0), keep=True), 1)
        self.exactly(Store.read(text="store a -").first_schema, (("a", ()),))

    def test_write_converts(self):
        store = Store(S)
        store.do_all(("make", "item", (None, 3)), ("make", "item", (0, 4)), ("change", C))
        self.exactly([store.write(1, "y", 7), store.pending(), store.late[2]],
                     [None, (0,), (("item", 0, None, 0, (None, 3)), ("item", 0, None, 1, (7,)))])

    def test_drop(self):
        store = Store(S)
        store.do_all(("make", "item", (None, 3)), ("make", "item", (0, 4)), ("drop", 0))
        self.exactly([store.plain()[1:], len(store), 0 in store, 1 in store, store.make("item", 1, 1)],
                     [(2, ((1, "item", (None, 4)),)), 1, False, True, 2])

    def test_keep_and_release(self):
        store = Store(S)
        store.make("item", None, 3)
        self.exactly([store.keep("noon"), store.keep("eve"), store.snapshots, store.late[1], store.late[4]],
                     [0, 1, (("eve", 1), ("noon", 0)), ((), ()), (0, 1)])
        self.exactly([store.release("noon"), store.snapshots, store.late[4], store.version, store.keep("noon"), store.snapshots],
                     [None, (("eve", 1),), (1,), 2, 2, (("eve", 1), ("noon", 2))])

    def test_touch(self):
        store = done(DONE[:5])
        self.exactly([store.pending(), store.touch(2, 0), store.touch(2, 1, 0), store.touch(0), store.pending()],
                     [(0, 1, 2), (2, 0), (1,), (), ()])

    def test_sweep(self):
        """The oldest versions first, of one version the least numbers."""
        store = Store(S)
        store.do_all(*[("make", "item", (None, k)) for k in range(4)], ("change", ()), ("touch", (0, 2)), ("change", ()), ("touch", (3,)),
                     ("change", ()))
        self.exactly([row[3] for row in store.late[2]], [1, 0, 1, 2])
        self.exactly([store.pending(), store.sweep(2), store.sweep(), store.sweep(9), store.sweep(1)], [(0, 1, 2, 3), (1, 0), (2,), (3,), ()])
        self.exactly(store.sweep(10 ** 59), ())

    def test_sweep_dropped(self):
        store = Store(S)
        store.do_all(("make", "item", (None, 3)), ("make", "item", (0, 4)), ("change", C), ("drop", 0))
        self.exactly([store.pending(), store.sweep(9), store.late[2][0][3]], [(1,), (1,), 0])

    def test_close(self):
        store = Store(S)
        store.make("item", None, 3)
        self.exactly([store.close_up(), store.change(()), store.close_up(), store.change(()), store.close_up(), store.version], [0, 1, 0, 2, 1, 1])
        store.do_all(("change", ()), ("change", ()), ("change", ()))
        self.exactly([store.version, store.close_up(), store.version, store.pending()], [4, 3, 1, (0,)])
        # snapshots keep their moments
        store.do_all(("write", 0, "x", 4), ("change", ()), ("keep", "noon"), ("write", 0, "x", 5), ("change", ()), ("sweep", 1))
        self.exactly([store.snapshots, store.version, between(store.late), store.close_up()], [(("noon", 2),), 4, (1, 3), 2])
        self.exactly([store.snapshots, store.version, store.was("noon", 0, "x"), store.value_of(0, "x")], [(("noon", 1),), 2, 4, 5])

    def test_pace_behind_each_kind(self):
        """A step with a pace does what it does without one, and then a sweep."""
        for pace in (1, 2, 9):
            for step in (("make", "crate", (1, 1)), ("write", 1, "size", 1), ("drop", 1), ("change", ()), ("keep", "eve"), ("release", "noon"),
                         ("touch", (4, 3)), ("sweep", 1), ("close",), ("pace", 1), ("pace", 3), ("pace", 0)):
                store, other = Store(SCHEMA), Store(SCHEMA)
                for one in (store, other):
                    one.do_all(("make", "crate", (5,)), *[("make", "item", (0, k)) for k in range(6)], ("change", CHANGE), ("keep", "noon"),
                               ("touch", (0,)), ("change", ()), ("change", ()))
                store.set_pace(pace)
                other.sweep(pace)
                self.exactly([store.late, store.pending()], [other.late, other.pending()])
                self.exactly(store.go(step), None if step[0] == "pace" else other.go(step))
                if store.pace > 0:
                    other.sweep(store.pace)
                self.exactly([store.late, store.plain()], [other.late, other.plain()])

    def test_pace(self):
        store = Store(S)
        store.do_all(*[("make", "item", (None, k)) for k in range(5)], ("change", C))
        self.exactly([store.set_pace(2), store.pending(), store.pace], [None, (2, 3, 4), 2])
        self.exactly([store.touch(4), store.pending()], [(4,), ()])
        self.exactly([store.change(()), store.pending(), store.sweep(1), store.pending()], [2, (2, 3, 4), (2,), ()])
        store.undo()
        self.exactly([store.pending(), store.pace], [(2, 3, 4), 2])
        store.pace = 0
        self.exactly([store.pending(), store.pace], [(2, 3, 4), 0])
        store.pace = 10 ** 59
        self.exactly([store.pending(), store.pace], [(), 10 ** 59])
        # what the pace converts is not told
        self.exactly([store.change(()), store.sweep(1), store.touch(0, 1)], [3, (), ()])

    def test_reading_converts_nothing(self):
        store = done(DONE[:8])
        before = store.late
        store.plain(), store.table(), list(store.walk()), store.value_of(2, "size"), store.was("noon", 2, "size"), store.needed()
        store.tried(("sweep", 9)), store.object_of(2), store.barred(("sweep", 9)), store == done(DONE[:8]), str(store), store.room()
        self.exactly(store.late, before)


def facts_of(store):
    return [store.late, store.snapshots, store.pace, store.schema, store.version, store.plain(), store.pending(), store.log(), str(store)]


def by_method(store, step):
    """Do a step by its own method."""
    word, *things = step
    if word == "make":
        return store.make(things[0], *things[1])
    if word == "touch":
        return store.touch(*things[0])
    if word == "pace":
        return store.set_pace(things[0])
    return getattr(store, "close_up" if word == "close" else word)(*things)


class TestBarred(Case):
    """[66]"""

    def wrong(self, store, word, *steps):
        before = (store.late, store.snapshots, store.pace, store.log(), store.plain())
        for step in steps:
            self.exactly(store.barred(step), word)
            started = store.counts()[0]
            self.refused(InvalidStep, {"step": step, "word": word}, store.go, step)
            self.refused(InvalidStep, {"step": step, "word": word}, store, step)
            self.exactly(store.counts(), (started + 2, started + 2))
            self.refused(InvalidStep, {"step": step, "word": word}, store.do_all, step)
            self.refused(InvalidStep, {"step": step, "word": word}, store.tried, step)
        self.exactly((store.late, store.snapshots, store.pace, store.log(), store.plain()), before)

    def full(self):
        """A store with all objects and all changes that there may be, and a snapshot."""
        store = Store(SCHEMA)
        store.do_all(*[("make", "crate", (k,)) for k in range(7)], ("make", "item", (0, 3)), ("drop", 1), ("keep", "noon"),
                     *[("change", ())] * 4)
        return store

    def test_shape(self):
        full = self.full()
        self.wrong(full, "shape", *ODD, None, 5, (), "close", ["close"], ("Close",), ("close", 0), ("open",), ("close", "close"), (("close",),),
                   ("make",), ("make", "crate"), ("make", "crate", 5), ("make", "crate", [5]), ("make", "crate", (True,)), ("make", "bag", ("a",)),
                   ("make", "Crate", (5,)), ("make", None, (5,)), ("make", "crate", (5,), ()), ("make", "crate", None), ("make", "", ()),
                   ("make", "crate", ((5,),)), ("make", 5, ()), ("make", ["crate"], ()), ("make", "craterrrr", ()))
        self.wrong(full, "shape", ("write", 0, "free"), ("write", 0, "free", 5, 5), ("write", -1, "free", 5), ("write", True, "free", 5),
                   ("write", None, "free", 5), ("write", "0", "free", 5), ("write", 99, "Free", 5), ("write", 99, None, 5), ("write", 99, 0, 5),
                   ("write", 99, "q", True), ("write", 99, "q", "gone"), ("write", 99, "q", (5,)), ("write", 99, "q", [5]), ("write", (0,), "q", 5))
        for word in ("drop", "pace", "sweep"):
            self.wrong(full, "shape", *[(word, bad) for bad in (-1, None, True, False, "0", (0,), [0], "a")], (word,), (word, 0, 0), [word, 0])
        self.wrong(full, "shape", ("sweep", 0), ("change",), ("change", (), ()), ["change", ()])
        for word in ("keep", "release"):
            self.wrong(full, "shape", *[(word, bad) for bad in ("", "Noon", "no on", "noonnoonn", None, 0, True, ("noon",), ["noon"], "noon\n")],
                       (word,), (word, "noon", "noon"))
        self.wrong(full, "shape", *[("touch", bad) for bad in ((), 0, None, [0], (0, 0), (99, 0, 99), (-1,), (True,), (0, True), ("0",), (None,),
                                                              ((0,),), "0", (0, False))], ("touch",), ("touch", 0, 2), ("touch", (0,), (2,)))
        self.wrong(full, "shape", ("undo",), ("try", ()), (None, 0), (["drop"], 0), (True, 0), ("drop ", 0), ("", 0), (("drop",), 0))

    def test_make(self):
        full = self.full()
        for store in (full, Store(SCHEMA)):
            self.wrong(store, "class", ("make", "bag", ()), ("make", "bag", (5,)), ("make", "crates", (99,)), ("make", "a", (None,)))
            self.wrong(store, "values", ("make", "crate", ()), ("make", "crate", (5, 5)), ("make", "crate", (10,)), ("make", "crate", (-1,)),
                       ("make", "crate", (None,)), ("make", "item", (None, 10)), ("make", "item", (8, 3)), ("make", "item", (99, 3)),
                       ("make", "item", (-1, 3)), ("make", "item", (3,)), ("make", "item", (None, None)), ("make", "item", (10 ** 59, 3)))
        # a link to an object of another class, to one that was dropped, to the new one itself
        self.wrong(full, "values", ("make", "item", (7, 3)), ("make", "item", (1, 3)), ("make", "item", (8, 3)))
        self.wrong(full, "full", ("make", "crate", (5,)), ("make", "item", (0, 3)), ("make", "item", (None, 3)))

    def test_make_new_class(self):
        store = Store(SCHEMA)
        bag = (("bag", (("n", (0, 1)),), None),)
        self.wrong(store, "class", ("make", "bag", (1,)))
        store.change(bag)
        self.exactly(store.make("bag", 1), 0)
        self.wrong(store, "values", ("make", "bag", (2,)))

    def test_write(self):
        full = self.full()
        self.wrong(full, "number", ("write", 1, "free", 5), ("write", 8, "q", 99), ("write", 10 ** 59, "free", 5))
        self.wrong(full, "field", ("write", 0, "q", 99), ("write", 0, "size", 5), ("write", 0, "load", 5), ("write", 7, "free", None))
        self.wrong(full, "value", ("write", 0, "free", 10), ("write", 0, "free", -1), ("write", 0, "free", None), ("write", 7, "box", 1),
                   ("write", 7, "box", 7), ("write", 7, "box", 8), ("write", 7, "box", -1), ("write", 7, "size", None))
        full.write(7, "box", 0)
        # the fields of now
        store = Store(S)
        store.do_all(("make", "item", (None, 3)), ("change", C))
        self.wrong(store, "field", ("write", 0, "x", 3))
        self.wrong(store, "value", ("write", 0, "y", 21))
        self.exactly(store.write(0, "y", 20), None)

    def test_drop(self):
        full = self.full()
        self.wrong(full, "number", ("drop", 1), ("drop", 8), ("drop", 10 ** 59))

    def test_change(self):
        full = self.full()
        bad = (None, 5, [], "a", ((),), (("crate", (), None),), (("bag", (), ()),), (("item", (("a", (0, 1)),), (("get", ("load",), 0),)),), *ODD)
        for store in (full, Store(SCHEMA)):
            self.wrong(store, "change", *[("change", thing) for thing in bad if thing != ()])
        self.wrong(full, "full", ("change", ()), ("change", CHANGE))
        # of the newest schema
        store = Store(S)
        store.change(C)
        self.wrong(store, "change", ("change", C))

    def test_keep_and_release(self):
        full = self.full()
        self.wrong(full, "name", ("keep", "noon"), ("release", "eve"), ("release", "noo"))
        self.wrong(full, "full", ("keep", "eve"))
        full.release("noon")
        self.wrong(full, "name", ("release", "noon"))
        self.wrong(full, "full", ("keep", "noon"))

    def test_touch(self):
        full = self.full()
        self.wrong(full, "number", ("touch", (1,)), ("touch", (0, 1)), ("touch", (8,)), ("touch", (0, 2, 99)), ("touch", (10 ** 59,)))

    def test_full_and_closed(self):
        full = self.full()
        self.exactly([full.version, full.close_up(), full.version, full.change(())], [5, 4, 1, 2])

    def test_never_barred(self):
        full = self.full()
        for step in (("sweep", 1), ("sweep", 10 ** 59), ("pace", 0), ("pace", 10 ** 59), ("close",)):
            self.exactly(full.barred(step), None)

    def test_own_methods(self):
        full = self.full()
        for call, given, step, word in (
            (full.make, ("crate", 10), ("make", "crate", (10,)), "values"), (full.make, (None,), ("make", None, ()), "shape"),
            (full.make, ("crate", [5]), ("make", "crate", ([5],)), "shape"), (full.write, (8, "q", 5), ("write", 8, "q", 5), "number"),
            (full.write, (None, 5, []), ("write", None, 5, []), "shape"), (full.drop, (True,), ("drop", True), "shape"),
            (full.change, ([],), ("change", []), "change"), (full.keep, ("noon",), ("keep", "noon"), "name"),
            (full.release, (5,), ("release", 5), "shape"), (full.touch, (), ("touch", ()), "shape"), (full.touch, (0, 0), ("touch", (0, 0)), "shape"),
            (full.touch, (0, 1), ("touch", (0, 1)), "number"), (full.sweep, (0,), ("sweep", 0), "shape"),
            (full.sweep, (None,), ("sweep", None), "shape"),
        ):
            started = full.counts()[0]
            self.refused(InvalidStep, {"step": step, "word": word}, call, *given)
            self.exactly(full.counts(), (started + 1, started + 1))

    def test_pace(self):
        store = Store(S)
        for value in (-1, None, True, False, "1", (1,), [1], *ODD):
            if value is not None and not isinstance(value, bool) and isinstance(value, int) and value >= 0:
                continue
            started = store.counts()[0]
            self.refused(InvalidPace, {"value": value}, store.set_pace, value)
            self.refused(InvalidPace, {"value": value}, setattr, store, "pace", value)
            self.exactly([store.counts(), store.pace, store.log()], [(started + 2, started + 2), 0, ()])
        store.pace = 3
        self.exactly([store.pace, store.log()], [3, (("pace", 3),)])


class TestReading(Case):
    """[64], [67], [69] and the reading methods of the interface"""

    def test_objects(self):
        store = done(DONE[:9])
        self.exactly([store[0], store[1], store.object_of(0), store.object_of(1), store.value_of(0, "load")],
                     ["crate", "item", ("crate", (5, 7)), ("item", (0, 9)), 7])
        self.exactly([len(store), 0 in store, 1 in store, list(store.walk())],
                     [2, True, True, [(0, "crate", (5, 7)), (1, "item", (0, 9))]])
        for number in NO_NUMBERS:
            self.exactly(number in store, False)
            self.refused(UnknownObject, {"number": number}, store.object_of, number)
            self.refused(UnknownObject, {"number": number}, store.__getitem__, number)
            self.refused(UnknownObject, {"number": number}, store.value_of, number, "q")
        for field in ("q", "size", "Free", None, 0, True, ("free",), ["free"], *ODD):
            self.refused(InvalidStep, {"step": ("value", 0, field), "word": "field"}, store.value_of, 0, field)

    def test_walk(self):
        store = done(DONE[:6])
        self.assertTrue(inspect.isgeneratorfunction(Store.walk))
        one, other = store.walk(), store.walk()
        self.exactly([next(one), next(one), next(other)], [(0, "crate", (5, 7)), (1, "item", (0, 3)), (0, "crate", (5, 7))])
        for row in store.walk():
            break
        self.exactly([row, len(list(other))], [(0, "crate", (5, 7)), 2])

    def test_was(self):
        store = done(DONE[:9])
        self.exactly([store.was("noon", *cell) for cell in ((0, "free"), (0, "load"), (1, "size"), (2, "size"), (2, "box"))], [5, 7, 3, 4, 0])
        store.make("crate", 1, 1)
        for name in NO_NAMES:
            self.refused(InvalidStep, {"step": ("was", name, 99, "q"), "word": "name"}, store.was, name, 99, "q")
        for number in (3, *NO_NUMBERS[1:]):
            self.refused(InvalidStep, {"step": ("was", "noon", number, "q"), "word": "number"}, store.was, "noon", number, "q")
        for field in ("q", "size", "Free", None, 0, True, ("free",), ["free"], *ODD):
            self.refused(InvalidStep, {"step": ("was", "noon", 0, field), "word": "field"}, store.was, "noon", 0, field)
        store.release("noon")
        self.refused(InvalidStep, {"step": ("was", "noon", 0, "free"), "word": "name"}, store.was, "noon", 0, "free")

    def test_was_behind_everything(self):
        """It stays the same; a link can lead to an object that was dropped since."""
        store = Store(S)
        store.do_all(("make", "item", (None, 3)), ("make", "item", (0, 4)), ("drop", 0), ("make", "item", (1, 5)), ("keep", "noon"))
        told = [store.was("noon", 1, "next"), store.was("noon", 1, "x"), store.was("noon", 2, "next"), store.was("noon", 2, "x")]
        self.exactly(told, [None, 4, 1, 5])
        for step in (("write", 2, "x", 0), ("drop", 1), ("change", C), ("keep", "eve"), ("sweep", 9), ("make", "item", (1,)), ("change", ()),
                     ("pace", 3), ("close",), ("write", 2, "y", 20), ("release", "eve"), ("close",), ("drop", 2)):
            store.go(step)
            self.exactly([store.was("noon", 1, "next"), store.was("noon", 1, "x"), store.was("noon", 2, "next"), store.was("noon", 2, "x")], told)
            # dropped before, made later, and fields of later
            for number in (0, 3):
                self.refused(InvalidStep, {"step": ("was", "noon", number, "x"), "word": "number"}, store.was, "noon", number, "x")
            self.refused(InvalidStep, {"step": ("was", "noon", 2, "y"), "word": "field"}, store.was, "noon", 2, "y")

    def test_table(self):
        store = Store(SCHEMA)
        store.do_all(("make", "crate", (5,)), *[("make", "item", (0, k)) for k in range(7)], ("change", CHANGE), ("drop", 3), ("touch", (2,)))
        self.exactly(store.table()[:3], ["0  crate  0  free=5,load=21", "1  item   0  box=0,size=0", "2  item   1  box=0,size=1"])
        self.exactly(len(store.table()), 7)
        store = Store((("a", ()), ("longer", (("n", (-9, 9)), ("o", "a")))))
        store.do_all(("make", "a", ()), ("make", "longer", (-7, None)), ("make", "longer", (0, 0)))
        self.exactly(store.table(), ["0  a       0  -", "1  longer  0  n=-7,o=none", "2  longer  0  n=0,o=0"])
        self.exactly(Store(S).table(), [])
        # only living objects count for the lengths, and there may be more than ten versions and objects
        store.do_all(("drop", 1), ("drop", 2))
        self.exactly(store.table(), ["0  a  0  -"])

    def test_strings(self):
        store = done()
        self.exactly(str(store), " / ".join(step_row(step) for step in store.log()))
        self.exactly([str(done(DONE[:1])), str(done(()))], ["make crate 5", "-"])

    def test_new_values(self):
        store = done()
        self.assertIsNot(store.table(), store.table())
        store.table().append("more")
        self.exactly([len(store.table()), store.log().__class__, store.pending().__class__, store.snapshots.__class__],
                     [2, tuple, tuple, tuple])


class TestEquality(Case):
    """[69]"""

    def test_equal(self):
        store = done()
        self.exactly([store == done(), store != done(), store == replayed(SCHEMA, store.log()), done(()) == Store(SCHEMA)], [True, False, True, True])
        for other in (done(DONE[:-1]), Store(S), Store(SCHEMA), done(DONE[:-1] + ((("sweep", 8), ()),))):
            self.exactly([store == other, store != other, other == store], [False, True, False])
        # the same late store, but another log
        one, other = done(DONE[:1]), done(DONE[:1] + ((("sweep", 1), ()),))
        self.exactly([one.late == other.late, one == other], [True, False])

    def test_first_schemas(self):
        one, other = Store((("a", (("x", (0, 1)),)),)), Store((("a", (("x", (0, 2)),)),))
        self.exactly([one == other, one != other], [False, True])
        one.make("a", 1), other.make("a", 1)
        self.exactly(one == other, False)

    def test_counts_and_pace_do_not_matter(self):
        one, other = Store(S), Store(S)
        one.make("item", None, 3)
        one.undo()
        self.exactly([one == other, one.counts(), other.counts()], [True, (2, 2), (0, 0)])

    def test_other_values(self):
        store = done()
        for other in (*ODD, None, 5, store.late, store.log(), str(store), [store], (store,), [done()], store.plain(), Store):
            self.exactly([store == other, store != other, other == store, other != store], [False, True, False, True])
        self.exactly([[store] == [done()], [store] != [done()], [Store(S)] == [store], [store] == [store, store]], [True, False, False, False])
        self.exactly([store in [5, None, done()], Store(S) in [5, store], (1, store) == (1, done())], [True, False, True])


class TestTrials(Case):
    """[68]"""

    def facts(self, store):
        return [*facts_of(store), store.counts()]

    def test_tried(self):
        store = done()
        before = self.facts(store)
        steps = (("make", "crate", (1, 1)), ("change", ()), ("keep", "eve"), ("write", 0, "free", 1), ("sweep", 9), ("pace", 1), ("drop", 1),
                 ("release", "eve"), ("close",))
        other = done()
        other.do_all(*steps)
        self.exactly(store.tried(*steps), (other.plain(), other.room()))
        self.exactly(self.facts(store), before)
        self.exactly(store.tried(), (store.plain(), store.room()))

    def test_barred(self):
        store = done()
        before = self.facts(store)
        for bad in (("drop", 9), None, ("make", "crate", (99, 1)), ("release", "noon")):
            word = store.barred(bad)
            for steps in ((bad,), (("keep", "eve"), bad), (("keep", "eve"), ("drop", 0), bad, ("close",)), (bad, 5)):
                self.refused(InvalidStep, {"step": bad, "word": word}, store.tried, *steps)
                self.exactly(self.facts(store), before)
        # barred only by the steps before
        self.refused(InvalidStep, {"step": ("drop", 0), "word": "number"}, store.tried, ("drop", 0), ("drop", 0))


class TestUndo(Case):
    """[68], [69]"""

    def test_nothing(self):
        store = Store(S)
        self.refused(NothingToUndo, {"count": 0}, store.undo)
        self.exactly(store.counts(), (1, 1))
        store.make("item", None, 3)
        store.undo()
        self.refused(NothingToUndo, {"count": 0}, store.undo)

    def test_each_kind(self):
        store = Store(SCHEMA)
        states = []
        for step, answer in DONE:
            states.append(facts_of(store))
            store.go(step)
        for step, answer in DONE[::-1]:
            started = store.counts()[0]
            self.exactly(store.undo(), step)
            self.exactly(facts_of(store), states.pop())
            self.exactly(store.counts(), (started + 1, started + 1))
        self.exactly(store == Store(SCHEMA), True)
        # and doing them again
        self.exactly([store.go(step) for step, _ in DONE], [answer for _, answer in DONE])
        self.exactly([store == done(), store.late == done().late], [True, True])

    def test_conversions_of_the_pace(self):
        store = Store(S)
        store.do_all(("make", "item", (None, 3)), ("make", "item", (0, 4)), ("pace", 1), ("change", C))
        self.exactly(store.pending(), (1,))
        before = store.late
        store.make("item", 1)
        self.exactly([store.pending(), store.undo(), store.pending(), store.late], [(), ("make", "item", (1,)), (1,), before])


class TestDoAll(Case):
    """[68], [69]"""

    def test_done(self):
        store = Store(SCHEMA)
        self.exactly([store.do_all(*[step for step, _ in DONE]), store == done(), store.counts()], [len(DONE), True, (1, 1)])
        self.exactly([store.do_all(), store.do_all(keep=True), store.counts(), store == done()], [0, 0, (3, 3), True])

    def test_barred(self):
        bad = ("drop", 9)
        for keep in (False, True):
            for k in range(len(DONE) + 1):
                steps = [step for step, _ in DONE]
                steps.insert(k, bad)
                first = 2 if k >= 2 else 0
                store = Store(SCHEMA)
                store.do_all(*steps[:first])
                before = [store.late, store.log(), store.snapshots, store.pace]
                self.refused(InvalidStep, {"step": bad, "word": "number"}, store.do_all, *steps[first:], keep=keep)
                if keep:
                    self.exactly(store == done(DONE[:k]), True)
                    self.exactly([store.late, store.pace], [done(DONE[:k]).late, done(DONE[:k]).pace])
                else:
                    self.exactly([store.late, store.log(), store.snapshots, store.pace], before)
                self.exactly(store.counts(), (2, 2))

    def test_any_values(self):
        store = done()
        for bad in (*ODD, None, 5, ["close"], "close"):
            self.refused(InvalidStep, {"step": bad, "word": "shape"}, store.do_all, ("sweep", 1), bad, ("drop", 99))
        self.exactly(store == done(), True)


class TestCounts(Case):
    """[69]"""

    def test_what_is_counted(self):
        store = Store(S)
        many = 0
        for call in (lambda: store.go(("make", "item", (None, 3))), lambda: store(("make", "item", (0, 4))), lambda: store.make("item", 1, 5),
                     lambda: store.write(0, "x", 4), lambda: store.change(C), lambda: store.keep("noon"), lambda: store.touch(0),
                     lambda: store.sweep(), lambda: store.release("noon"), lambda: store.close_up(), lambda: store.drop(2),
                     lambda: store.set_pace(1), lambda: setattr(store, "pace", 0), lambda: store.undo(), lambda: store.do_all(),
                     lambda: store.do_all(("sweep", 1), ("sweep", 1)), lambda: store.do_all(("sweep", 1), keep=True)):
            call()
            many += 1
            self.exactly(store.counts(), (many, many))
        for call in (lambda: store.go(None), lambda: store(5), lambda: store.make("bag"), lambda: store.write(9, "x", 4), lambda: store.change(5),
                     lambda: store.keep(""), lambda: store.touch(), lambda: store.sweep(0), lambda: store.release("a"), lambda: store.drop(2),
                     lambda: store.set_pace(-1), lambda: setattr(store, "pace", None), lambda: store.do_all(None),
                     lambda: store.do_all(("sweep", 1), None, keep=True)):
            with self.assertRaises((InvalidStep, InvalidPace)):
                call()
            many += 1
            self.exactly(store.counts(), (many, many))

    def test_what_is_not(self):
        store = done()
        before = store.counts()
        for call in (store.plain, store.pending, store.is_swept, store.room, store.needed, store.walk, store.log, store.counts, store.table,
                     lambda: store.barred(None), lambda: store.tried(("sweep", 1)), lambda: store.value_of(0, "free"), lambda: len(store),
                     lambda: 0 in store, lambda: store[0], lambda: store == store, lambda: str(store), lambda: store.late, lambda: store.pace):
            call()
        for call in (lambda: store[9], lambda: store.object_of(9), lambda: store.value_of(9, 9), lambda: store.was(9, 9, 9), lambda: store.tried(9)):
            with self.assertRaises((InvalidStep, UnknownObject)):
                call()
        self.exactly(store.counts(), before)
        for store in (Store.read("\n".join(log_rows(SCHEMA, store.log()))), replayed(SCHEMA, store.log()), Store(SCHEMA)):
            self.exactly(store.counts(), (0, 0))


class TestRandomRuns(Case):
    """[8], [64] to [70], [77]"""

    def check(self, run):
        store, history = run.store, run.history
        self.exactly([store.plain(), store.schema, store.version], [history[-1], history[-1][0], run.newest()])
        self.exactly([store.pending(), store.is_swept()], [tuple(run.pending()), not run.pending()])
        self.exactly([row[3] for row in store.late[2]], run.rows)
        self.exactly([store.snapshots, store.pace], [tuple(sorted(run.snapshots.items())), run.pace])
        self.exactly(forgotten(store.late), store.late)
        self.exactly(store.needed(), tuple(needed_in(store.late, history)))
        held = held_in(store.late, history)
        self.exactly([lets_late(store.late), store.room()], [(len(run.rows), len(held)), len(held)])
        self.exactly([list(store.walk()), len(store)], [list(history[-1][2]), len(history[-1][2])])

    def check_snapshots(self, run):
        """(C1), [67]"""
        for name, version in run.snapshots.items():
            for cell in all_cells(run.history):
                if cell[1] == version:
                    self.exactly(run.store.was(name, cell[0], cell[2]), value_in(run.history, cell))
            there = [number for number, _, _ in run.history[version][2]]
            for number in range(9):
                if number not in there:
                    self.refused(InvalidStep, {"step": ("was", name, number, "f"), "word": "number"}, run.store.was, name, number, "f")
        for number, cls, values in run.history[-1][2]:
            self.exactly([run.store[number], run.store.object_of(number)], [cls, (cls, values)])
            for (field, _), value in zip(dict(run.history[-1][0])[cls], values):
                self.exactly(run.store.value_of(number, field), value)

    def test_steps(self):
        words = {}
        for seed in range(120):
            run = StoreRun(random.Random(seed), sums=seed % 3 == 0)
            for _ in range(run.rng.randint(1, 40)):
                step = run.some_step()
                if step is None:
                    continue
                expected = run.expect(step)
                self.exactly(run.rng.choice((Store.go, Store.__call__, by_method))(run.store, step), expected)
                words[step[0]] = words.get(step[0], 0) + (step[0] != "close" or expected > 0)
                self.check(run)
            self.check_snapshots(run)
        self.assertGreater(min(words.get(word, 0) for word in WORDS), 10, words)

    def test_barred(self):
        words = {}
        for seed in range(150):
            run = StoreRun(random.Random(seed))
            for _ in range(run.rng.randint(5, 40)):
                step = run.some_step()
                if step is not None:
                    for odd in (odd_step(run.rng, step), odd_step(run.rng, step), ("make", run.schema[0][0], ()), ("keep", "noon"), ("change", ())):
                        word = word_in(run, odd)
                        self.exactly(run.store.barred(odd), word)
                        words[(odd[0] if isinstance(odd, tuple) and odd and word != "shape" else None, word)] = True
                    run.expect(step)
                    run.store.go(step)
        for pair in ((None, "shape"), ("make", "class"), ("make", "values"), ("make", "full"), ("write", "number"), ("write", "field"),
                     ("write", "value"), ("drop", "number"), ("change", "change"), ("change", "full"), ("keep", "name"), ("keep", "full"),
                     ("release", "name"), ("touch", "number")):
            self.assertIn(pair, words)

    def test_undo_replay_and_read(self):
        for seed in range(40):
            run = StoreRun(random.Random(seed))
            states = []
            for _ in range(30):
                step = run.some_step()
                if step is not None:
                    states.append((run.store.late, run.store.snapshots, run.store.pace))
                    run.expect(step)
                    run.store.go(step)
            store = run.store
            text = "\n".join(log_rows(run.schema, store.log()))
            for other in (replayed(run.schema, store.log()), Store.read(text)):
                self.exactly([other == store, other.late, other.snapshots, other.pace, str(other), other.counts()],
                             [True, store.late, store.snapshots, store.pace, str(store), (0, 0)])
            steps = store.log()
            for k in range(len(steps) - 1, -1, -1):
                self.exactly(store.undo(), steps[k])
                self.exactly((store.late, store.snapshots, store.pace), states[k])
            store.do_all(*steps)
            self.exactly(store.late, other.late)

    def test_trials(self):
        for seed in range(40):
            run = StoreRun(random.Random(seed))
            run.go_on(12)
            rest = [run.some_step(("write", "drop", "touch", "sweep", "pace", "close", "make")) for _ in range(3)]
            rest = [step for step in rest if step is not None] + [odd_step(run.rng, ("drop", 0)) for _ in range(2)]
            run.rng.shuffle(rest)
            store = run.store
            before = [store.late, store.snapshots, store.pace, store.log(), store.counts()]
            other = replayed(run.schema, store.log())
            told = outcome(other.do_all, *rest)
            if told == len(rest):
                self.exactly(store.tried(*rest), (other.plain(), other.room()))
            else:
                self.exactly(outcome(store.tried, *rest), told)
                self.exactly(other == store, True)
            self.exactly([store.late, store.snapshots, store.pace, store.log(), store.counts()], before)


def outcome(call, *given):
    try:
        return call(*given)
    except InvalidStep as e:
        return (e.step, e.word)


class TestConsequences(Case):
    """[70]"""

    def pair(self, seed, close=True, drop=True):
        """Two Stores with the same logs but for steps that only convert and close up."""
        run = StoreRun(random.Random(seed), sums=seed % 2 == 0)
        other = Store(run.schema)
        words = ("make", "make", "write", "change", "keep", "release") + (("drop",) if drop else ())
        for _ in range(25):
            step = run.some_step(words)
            if step is not None:
                run.expect(step)
                run.store.go(step)
                other.go(step)
            for _ in range(run.rng.randint(0, 2)):
                living = [number for number, _, _ in other.walk()]
                more = run.rng.choice([("sweep", 1), ("sweep", 2), ("pace", run.rng.randint(0, 2))] + [("close",)] * close
                                      + [("touch", (number,)) for number in living[:2]])
                other.go(more)
        return run, other

    def test_same_logs(self):
        for seed in range(60):
            run, other = self.pair(seed)
            self.exactly(other.plain(), run.store.plain())
            self.exactly([name for name, _ in other.snapshots], [name for name, _ in run.store.snapshots])
            for name, version in run.store.snapshots:
                for number, field in [(n, field) for n, v, field in all_cells(run.history) if v == version]:
                    self.exactly(other.was(name, number, field), run.store.was(name, number, field))

    def test_same_late_stores(self):
        """(C3)"""
        for seed in range(60):
            run, other = self.pair(seed, close=False, drop=False)
            for store in (run.store, other):
                store.sweep(9)
                self.exactly(store.pending(), ())
            self.exactly(other.late, run.store.late)

    def test_room(self):
        """Without pending objects and snapshots, exactly the values of the living objects are held."""
        for seed in range(60):
            run, other = self.pair(seed)
            for name, _ in other.snapshots:
                other.release(name)
            other.sweep(9)
            self.exactly(other.room(), sum(len(values) for _, _, values in other.walk()))

    def test_room_of_release_and_close(self):
        closed = 0
        for seed in range(120):
            run, other = self.pair(seed)
            for store in (run.store, other):
                store.pace = 0
                for step in [("close",), *[("release", name) for name, _ in store.snapshots], ("close",)]:
                    before = store.room()
                    answer = store.go(step)
                    if step == ("close",):
                        closed += answer
                        self.exactly([store.room(), between(store.late)], [before, ()])
                    self.assertLessEqual(store.room(), before)
        self.assertGreater(closed, 30)


class TestRead(Case):
    """[74]"""

    def test_errors(self):
        rows = log_rows(SCHEMA, done().log())
        for text, at in (("", (0, 0)), ("\n", (0, 0)), ("store", (0, 1)), ("\n".join(rows) + "\n", (len(rows), 0)),
                         ("\n".join([*rows[:3], "", *rows[3:]]), (3, 0)),
                         ("\n".join([*rows, "drop"]), (len(rows), 1)), ("make crate 5", (0, 0)), (" / ".join(rows), (0, 5)),
                         ("\n".join([*rows[:2], "drop 99", "drop"]), (3, 1))):
            self.refused(InvalidText, {"row": at[0], "field": at[1]}, Store.read, text)
        # barred only when all can be read
        self.refused(InvalidStep, {"step": ("drop", 99), "word": "number"}, Store.read, "\n".join([*rows, "drop 99", "drop 98"]))
        self.refused(InvalidStep, {"step": ("make", "bag", ()), "word": "class"}, Store.read, "store a -\nmake bag -")

    def test_read(self):
        store = Store.read("store item next:item,x:0..9\nmake item none,3\nkeep noon")
        self.exactly([store.plain()[2], store.snapshots, store.counts(), plain_store(store.late), room(store.late), needed(store.late)],
                     [((0, "item", (None, 3)),), (("noon", 0),), (0, 0), store.plain(), store.room(), store.needed()])
        self.exactly(store.undo(), ("keep", "noon"))


if __name__ == "__main__":
    unittest.main()
