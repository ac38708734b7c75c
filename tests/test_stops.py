import inspect
import random
import unittest

from lateforms.errors import InvalidPaper, InvalidStep, UnknownObject
from lateforms.latecells import needed, plain_store
from lateforms.latechecker import lets_late
from lateforms.latesteps import converted, forgotten, late_released
from lateforms.stops import stops_of, write_done, writes_of
from tests.lateruns import CHAIN, HOPS, LATE, LATER, ROWS, TWICE, Run, converted_in, forgotten_in, needed_in
from tests.samples import ODD, Case
from tests.test_latesteps import NO_OBJECTS

KEEPS = (("keep", (1, 0, "box"), 0), ("keep", (1, 0, "size"), 3))
ROW = ("row", 1, 1, (0, 3))
# 0 was kept in version 0 already, its row is in version 1, and version 0 is pinned no more
ALL_KINDS = ((("a", (("x", (0, 9)), ("y", (0, 9)))),), ((("a", (("x", (0, 9)),), (("get", ("x",), 0),)),), (), ()), (
    ("a", 0, None, 1, (3,)), ("a", 0, 1, 1, (5,)), ("a", 1, 2, 1, (6,))), ((0, 0, "x", 3), (0, 0, "y", 4), (0, 1, "x", 3)), (1,))


class TestWrites(Case):
    """[59]"""

    def test_example(self):
        self.exactly(writes_of(LATE, 1), (*KEEPS, ROW))
        self.refused(InvalidPaper, {"word": "gone", "at": (1, 0, "box")}, lets_late, write_done(LATE, writes_of(LATE, 1)[2]))
        self.refused(InvalidStep, {"step": ("forget", (1, 0, "box")), "word": "place"}, write_done, LATE, ("forget", (1, 0, "box")))

    def test_by_name(self):
        self.exactly(writes_of(number=1, late=LATE), (*KEEPS, ROW))
        self.exactly(list(stops_of(number=1, late=LATER)), [LATER])
        self.exactly(write_done(write=ROW, late=LATE), LATE[:2] + ((ROWS[0], ("item", 0, None, 1, (0, 3)), ROWS[2]), (), ()))

    def test_not_pending(self):
        self.exactly(writes_of(LATER, 1), ())
        # also if there is something left to forget
        late = converted(LATER, 0)
        self.exactly(writes_of(late, 0), ())
        self.exactly(writes_of(late, 1), ())
        self.exactly(list(stops_of(late, 0)), [late])

    def test_unknown(self):
        for number in NO_OBJECTS:
            self.refused(UnknownObject, {"number": number}, writes_of, LATE, number)
            self.refused(UnknownObject, {"number": number}, list_of_stops, LATE, number)
        for number in (1, 2):
            self.refused(UnknownObject, {"number": number}, writes_of, CHAIN, number)
            self.refused(UnknownObject, {"number": number}, list_of_stops, CHAIN, number)

    def test_nothing_to_keep(self):
        # the crate reads the items: what it held itself is needed by nobody, and they are read no more
        self.exactly(writes_of(LATE, 0), (("row", 0, 1, (5, 7)),))
        self.exactly(writes_of(LATER, 0), (
            ("row", 0, 1, (5, 7)), ("forget", (1, 0, "box")), ("forget", (1, 0, "size"))))

    def test_several_versions(self):
        self.exactly(writes_of(TWICE[:4] + ((0, 1),), 0), (
            ("keep", (0, 0, "x"), 3), ("keep", (0, 1, "x"), 4), ("row", 0, 2, (8,))))
        self.exactly(writes_of(CHAIN, 0), (
            ("keep", (0, 1, "n"), None), ("keep", (0, 1, "x"), 7), ("keep", (0, 2, "n"), None), ("row", 0, 3, (None, 6)),
            ("clear", (1, 0, "n")), ("clear", (1, 0, "x")), ("clear", (3, 2, "x"))))

    def test_all_kinds(self):
        self.exactly(lets_late(ALL_KINDS), (3, 4))
        # the row of 1 is in the version in which it was dropped: its value there is no cell
        self.exactly(writes_of(late_released(ALL_KINDS, 1), 0), (
            ("row", 0, 3, (3,)), ("forget", (0, 0, "x")), ("forget", (0, 0, "y")), ("forget", (0, 1, "x")),
            ("clear", (1, 1, "x")), ("clear", (2, 1, "x"))))
        self.exactly(writes_of(ALL_KINDS, 0), (
            ("row", 0, 3, (3,)), ("forget", (0, 0, "x")), ("forget", (0, 0, "y")), ("clear", (1, 1, "x"))))
        late = ALL_KINDS[:3] + (ALL_KINDS[3][:2], (1, 2))
        self.exactly(writes_of(late, 0), (
            ("keep", (0, 1, "x"), 3), ("keep", (0, 2, "x"), 3), ("row", 0, 3, (3,)), ("forget", (0, 0, "x")), ("forget", (0, 0, "y")),
            ("clear", (1, 1, "x"))))


def list_of_stops(late, number):
    return list(stops_of(late, number))


class TestStops(Case):
    """[59], [62], (C8)"""

    def test_stops(self):
        self.assertTrue(inspect.isgeneratorfunction(stops_of))
        kept = [entry[1] + entry[2:] for entry in KEEPS]
        after = (ROWS[0], ("item", 0, None, 1, (0, 3)), ROWS[2])
        self.exactly(list(stops_of(LATE, 1)), [
            LATE, LATE[:3] + (tuple(kept[:1]), ()), LATE[:3] + (tuple(kept), ()), LATE[:2] + (after, tuple(kept), ())])

    def test_walked_twice_at_once_and_left_early(self):
        one, other = stops_of(CHAIN, 0), stops_of(CHAIN, 0)
        expected = list(stops_of(CHAIN, 0))
        self.exactly([next(one), next(one), next(other), next(one), next(other)], [expected[k] for k in (0, 1, 0, 2, 1)])
        one.close()
        self.exactly(list(other), expected[2:])
        for late in stops_of(CHAIN, 0):
            break
        self.exactly(late, CHAIN)

    def test_order_matters(self):
        """If the row is written before a cell that is kept, a needed cell is gone between the two."""
        late = write_done(write_done(LATE, KEEPS[0]), ROW)
        self.refused(InvalidPaper, {"word": "gone", "at": (1, 0, "size")}, lets_late, late)
        self.exactly(lets_late(write_done(late, KEEPS[1])), (3, 7))

    def test_runs(self):
        words = {}
        for seed in range(80):
            run = Run(random.Random(seed))
            for _ in range(run.rng.randint(5, 30)):
                run.step()
            for number in run.pending():
                self.check_object(run, number, words)
        self.assertGreater(min(words.get(word, 0) for word in ("keep", "row", "forget", "clear")), 20, words)

    def check_object(self, run, number, words):
        late, plain = run.late, run.history[-1]
        writes = writes_of(late, number)
        for write in writes:
            words[write[0]] = words.get(write[0], 0) + 1
        self.exactly(writes, writes_in(run, number))
        stops = list(stops_of(late, number))
        self.assertEqual(len(stops), len(writes) + 1)
        for k, stop in enumerate(stops):
            self.check_sound(stop)
            self.exactly(plain_store(stop), plain)
            if k > 0:
                self.exactly(stop, write_done(stops[k - 1], writes[k - 1]))
            # a stop, and another conversion behind it
            self.exactly(forgotten(converted(stop, number)), stops[-1])
        self.exactly(stops[-1], forgotten(converted(late, number)))


    def check_sound(self, late):
        """No needed cell is gone; only what is prepared and not needed may have lost what it is computed from."""
        try:
            lets_late(late)
        except InvalidPaper as e:
            self.assertEqual(e.word, "prepared")
            self.assertNotIn(late[3][e.at][:3], needed(late))

    def test_prepared_and_not_needed(self):
        """What another stopped conversion left is forgotten; before that, its cell cannot be told any more."""
        # 1 in version 2 reads 0 in version 1, which reads 1 in version 0
        late = list(stops_of(HOPS, 0))[1]
        self.exactly([late[3], lets_late(late)], [((0, 1, "x", 4),), (2, 4)])
        self.exactly(writes_of(late, 1), (
            ("keep", (1, 1, "x"), 3), ("row", 1, 2, (0, 4)), ("forget", (0, 1, "x")), ("clear", (0, 0, "x"))))
        stops = list(stops_of(late, 1))
        self.refused(InvalidPaper, {"word": "prepared", "at": 0}, lets_late, stops[2])
        for stop in stops:
            self.check_sound(stop)
            self.exactly(plain_store(stop), plain_store(late))
        self.exactly(lets_late(stops[4]), (2, 4))


def writes_in(run, number):
    """The writes of a conversion, from the late stores before it, behind it, and behind forgetting."""
    late, history = run.late, run.history
    after = converted_in(late, history, number)
    left = forgotten_in(after, history)
    due = needed_in(after, history)
    row = after[2][number]
    writes = [("keep", entry[:3], entry[3]) for entry in after[3] if entry not in late[3]]
    writes.append(("row", number, row[3], row[4]))
    writes += [("forget", entry[:3]) for entry in after[3] if entry not in left[3]]
    for n, (cls, _, _, current, values) in enumerate(after[2]):
        for (field, _), value in zip(dict(history[current][0])[cls], values):
            if value != "gone" and (n, current, field) not in due:
                writes.append(("clear", (n, current, field)))
    return tuple(writes)


class TestWriteDone(Case):
    """[60]"""

    def wrong(self, word, write, late=LATE):
        self.refused(InvalidStep, {"step": write, "word": word}, write_done, late, write)

    def test_done(self):
        self.exactly(write_done(LATER, ("keep", (0, 0, "free"), 5))[3], ((0, 0, "free", 5), *LATER[3]))
        self.exactly(write_done(LATER, ("keep", (2, 0, "size"), 4))[3], (*LATER[3], (2, 0, "size", 4)))
        self.exactly(write_done(LATER, ("forget", (1, 0, "box")))[3], LATER[3][1:])
        self.exactly(write_done(LATE, ("clear", (1, 0, "size")))[2], (ROWS[0], ("item", 0, None, 0, (0, "gone")), ROWS[2]))
        self.exactly(write_done(LATE, ("row", 0, 1, (5, 7)))[2], (("crate", 0, None, 1, (5, 7)), *ROWS[1:]))
        # nothing else changes
        for write in (("keep", (1, 0, "box"), 0), ("forget", (1, 0, "box"))):
            self.exactly(write_done(LATER, write)[:3] + write_done(LATER, write)[4:], LATER[:3] + LATER[4:])
        for write in (("clear", (1, 1, "box")), ("row", 1, 1, (0, 9))):
            self.exactly(write_done(LATER, write)[:2] + write_done(LATER, write)[3:], LATER[:2] + LATER[3:])

    def test_kept_again(self):
        self.exactly(write_done(LATER, ("keep", (1, 0, "size"), 3)), LATER)
        self.exactly(write_done(LATER, ("keep", (1, 0, "size"), 8))[3], ((1, 0, "box", 0), (1, 0, "size", 8)))
        self.exactly(write_done(LATER, ("keep", (1, 0, "box"), None))[3], ((1, 0, "box", None), (1, 0, "size", 3)))

    def test_values_are_not_looked_at(self):
        self.exactly(write_done(LATE, ("keep", (1, 0, "size"), None))[3], ((1, 0, "size", None),))
        self.exactly(write_done(LATE, ("keep", (0, 0, "free"), 10 ** 59))[3], ((0, 0, "free", 10 ** 59),))
        self.exactly(write_done(LATE, ("row", 1, 1, (99, None)))[2][1], ("item", 0, None, 1, (99, None)))
        # an object that is not pending, and a value that is gone already
        self.exactly(write_done(LATER, ("row", 1, 1, (None, 0)))[2][1], ("item", 0, None, 1, (None, 0)))
        late = write_done(LATE, ("clear", (1, 0, "size")))
        self.exactly(write_done(late, ("clear", (1, 0, "size"))), late)
        self.exactly(write_done(ALL_KINDS, ("clear", (1, 1, "x")))[2][1], ("a", 0, 1, 1, ("gone",)))
        # below the row's version, and of a dropped object
        self.exactly(write_done(ALL_KINDS, ("keep", (1, 0, "y"), 1))[3][3:], ((1, 0, "y", 1),))

    def test_write(self):
        bad_cells = (None, 5, "a", (), (1, 0), (1, 0, "size", 3), [1, 0, "size"], (-1, 0, "size"), (True, 0, "size"), (1, -1, "size"),
                     (1, False, "size"), (1, None, "size"), (1, 0, "Size"), (1, 0, None), (1, 0, ("size",)))
        for write in (*ODD, None, 5, (), ("keep",), ("row",), ("forget",), ("clear",), [*ROW], ("Row", *ROW[1:]), (["row"], *ROW[1:]),
                      (True, *ROW[1:]), (None, (1, 0, "size")), ("write", (1, 0, "size")), ("drop", 0), (("keep",), (1, 0, "size"), 3)):
            self.wrong("write", write)
        for cell in bad_cells:
            for write in (("keep", cell, 3), ("forget", cell), ("clear", cell)):
                self.wrong("write", write)
        cell = (9, 9, "q")
        for write in (("keep", cell), ("keep", cell, 3, 3), ("keep", cell, True), ("keep", cell, "gone"), ("keep", cell, (3,)),
                      ("keep", cell, []), ("forget", cell, 3), ("forget", cell, None), ("clear", cell, 3), ("clear", cell, "gone"),
                      ("row", 9, 9), ("row", 9, 9, (0, 3), ()), ("row", -1, 9, ()), ("row", None, 9, ()), ("row", True, 9, ()),
                      ("row", "9", 9, ()), ("row", 9, -1, ()), ("row", 9, None, ()), ("row", 9, False, ()), ("row", 9, 9, None),
                      ("row", 9, 9, [0, 3]), ("row", 9, 9, 3), ("row", 9, 9, (True,)), ("row", 9, 9, ("gone",)), ("row", 9, 9, (0, (3,))),
                      ("row", (9, 9), ()), ("row", cell, 3, ())):
            self.wrong("write", write)

    def test_place(self):
        for cell in ((9, 0, "size"), (3, 0, "size"), (1, 2, "size"), (1, 0, "free"), (1, 0, "q"), (0, 0, "load"), (1, 1, "size"),
                     (0, 1, "load"), (10 ** 59, 0, "size"), (1, 10 ** 59, "size")):
            self.wrong("place", ("keep", cell, 3))
            self.wrong("place", ("keep", cell, None), LATER)
        for cell in ((1, 2, "x"), (1, 1, "x"), (3, 1, "x"), (2, 2, "x"), (0, 3, "y")):
            self.wrong("place", ("keep", cell, 3), CHAIN)
        for write in (("row", 3, 1, (0, 3)), ("row", 10 ** 59, 1, (0, 3)), ("row", 1, 0, (0, 3)), ("row", 1, 2, (0, 3)),
                      ("row", 1, 1, (0,)), ("row", 1, 1, ()), ("row", 1, 1, (0, 3, 3)), ("row", 0, 1, (5,)), ("row", 0, 0, (5,))):
            self.wrong("place", write)
        for number in (1, 2):
            self.wrong("place", ("row", number, 3, (0, 3)), CHAIN)
        for cell in ((1, 0, "free"), (2, 0, "size"), (1, 1, "size"), (9, 9, "q"), (0, 0, "free")):
            self.wrong("place", ("forget", cell), LATER)
        for cell in ((3, 0, "size"), (9, 9, "q"), (1, 0, "size"), (1, 2, "size"), (1, 1, "free"), (0, 1, "load"), (0, 0, "load"),
                     (10 ** 59, 1, "size")):
            self.wrong("place", ("clear", cell), LATER)

    def test_not_sound(self):
        late = write_done(LATE, ("clear", (2, 0, "size")))
        self.refused(InvalidPaper, {"word": "gone", "at": (2, 0, "size")}, lets_late, late)
        late = write_done(LATE, ("keep", (2, 0, "size"), 5))
        self.refused(InvalidPaper, {"word": "prepared", "at": 0}, lets_late, late)


if __name__ == "__main__":
    unittest.main()
