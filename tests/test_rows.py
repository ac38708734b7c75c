import random
import unittest

from lateforms.errors import InvalidStep, InvalidText
from lateforms.replaying import is_log, replayed
from lateforms.rowreadings import read_log, read_schema, read_step
from lateforms.steprows import log_rows, schema_row, step_row
from lateforms.stores import Store
from lateforms.storesteps import is_step
from tests import lateruns
from tests.randoms import random_schema
from tests.samples import GROW, ODD, SCHEMA, Case
from tests.storeruns import S, StoreRun, has_shape, odd_step
from tests.test_stores import DONE

BIG = 10 ** 60 - 1
# rows of steps that can be read, and written again
ROWS = (
    ("make item none,3", ("make", "item", (None, 3))), ("make a -", ("make", "a", ())), ("make make 0", ("make", "make", (0,))),
    ("make none none", ("make", "none", (None,))), ("make close -5,none,none,0", ("make", "close", (-5, None, None, 0))),
    (f"make a {BIG},-{BIG}", ("make", "a", (BIG, -BIG))),
    ("write 0 x 5", ("write", 0, "x", 5)), ("write 12 none none", ("write", 12, "none", None)), ("write 0 write -1", ("write", 0, "write", -1)),
    (f"write {BIG} touch {BIG}", ("write", BIG, "touch", BIG)), ("drop 0", ("drop", 0)), (f"drop {BIG}", ("drop", BIG)),
    ("change -", ("change", ())), ("change new tag k:0..3", ("change", (("tag", (("k", (0, 3)),), None),))),
    ("change convert box area:0..50 * get size 0 get lid.w 1 lid:lid to lid", ("change", GROW)), ("change new change", ("change", (("change", (), None),))),
    ("change convert a convert b", ("change", (("a", (), ()), ("b", (), ())))),
    ("keep noon", ("keep", "noon")), ("keep keep", ("keep", "keep")), ("keep none", ("keep", "none")), ("release make", ("release", "make")),
    ("touch 0", ("touch", (0,))), ("touch 2,0,1", ("touch", (2, 0, 1))), (f"touch {BIG},0", ("touch", (BIG, 0))),
    ("sweep 1", ("sweep", 1)), (f"sweep {BIG}", ("sweep", BIG)), ("pace 0", ("pace", 0)), (f"pace {BIG}", ("pace", BIG)), ("close", ("close",)),
)
# strings, and the index of the first word that cannot stand
WRONG = (
    ("", 0), (" ", 0), ("\n", 0), ("Make item 3", 0), ("open", 0), ("store a -", 0), ("undo", 0), (" close", 0), ("close ", 1), ("close close", 1),
    ("close\n", 0), ("close -", 1), ("close  ", 1), ("\nclose", 0), ("-", 0), ("make,item 3", 0), ("5", 0),
    ("make", 1), ("make ", 1), ("make item", 2), ("make item ", 2), ("make item 3 3", 3), ("make item 3 ", 3), ("make  item 3", 1), ("make item  3", 2),
    ("make Item 3", 1), ("make item\n 3", 1), ("make item 3\n", 2), ("make itemitemi 3", 1), ("make - 3", 1), ("make 5 3", 1), ("make item 3,", 2),
    ("make item ,3", 2), ("make item 3,,3", 2), ("make item -,3", 2), ("make item None", 2), ("make item none,", 2), ("make item 03", 2),
    ("make item -0", 2), ("make item 3,-0", 2), ("make item +3", 2), ("make item 3.", 2), ("make item nonee", 2), ("make item --3", 2),
    ("make item ()", 2), ("make item 3;3", 2), (f"make item {BIG + 1}", 2), (f"make item 0,-{BIG + 1}", 2), ("make item x", 2),
    ("make item - -", 3), ("make item gone", 2), ("make item 3, 3", 2),
    ("write", 1), ("write 0", 2), ("write 0 x", 3), ("write 0 x ", 3), ("write 0 x 5 5", 4), ("write -1 x 5", 1), ("write none x 5", 1),
    ("write 00 x 5", 1), ("write -0 x 5", 1), ("write 0 X 5", 2), ("write 0 5 5", 2), ("write 0 x -", 3), ("write 0 x -0", 3), ("write 0 x 5,5", 3),
    ("write 0 x 05", 3), ("write 0 x\n 5", 2), ("write 0 x 5\n", 3), (f"write {BIG + 1} x 5", 1), (f"write 0 x {BIG + 1}", 3), ("write 0 x none,", 3),
    ("write x 0 5", 1), ("write 0  x 5", 2), ("write  0 x 5", 1), ("write 0,1 x 5", 1),
    ("drop", 1), ("drop -1", 1), ("drop none", 1), ("drop 0 0", 2), ("drop 01", 1), ("drop 0,1", 1), ("drop x", 1), ("drop 0 ", 2), ("drop -", 1),
    ("change", 1), ("change ", 1), ("change  -", 1), ("change - -", 2), ("change - new a", 2), ("change a", 1), ("change new", 2), ("change new A", 2),
    ("change new a k:3..0", 3), ("change convert a x:0..9", 4), ("change convert a x:0..9 get x", 6), ("change new b new a", 4), ("change -\n", 1),
    ("change new a k:0..3 ", 4), ("change convert a x:0..9 + 1", 6), ("change convert a x:0..9 1 1", 5),
    ("keep", 1), ("keep ", 1), ("keep Noon", 1), ("keep noon eve", 2), ("keep noonnoonn", 1), ("keep 5", 1), ("keep -", 1), ("release", 1),
    ("release no\non", 1), ("release noon ", 2), ("release a,b", 1),
    ("touch", 1), ("touch -", 1), ("touch 0,1,0", 1), ("touch 0,0", 1), ("touch 0 1", 2), ("touch 0,", 1), ("touch ,0", 1), ("touch none", 1),
    ("touch -1", 1), ("touch 0,01", 1), ("touch 0,-0", 1), (f"touch 0,{BIG + 1}", 1), ("touch 0,none", 1), ("touch ", 1), ("touch 0\n", 1),
    ("sweep", 1), ("sweep 0", 1), ("sweep -1", 1), ("sweep none", 1), ("sweep 1 1", 2), ("sweep 01", 1), ("sweep x", 1), ("sweep ", 1),
    ("pace", 1), ("pace -1", 1), ("pace none", 1), ("pace 0 0", 2), ("pace -0", 1), ("pace ", 1), ("pace x", 1), (f"pace {BIG + 1}", 1),
)
SCHEMAS = (
    ("store item next:item,x:0..9", S), ("store a -", (("a", ()),)), ("store a - b -", (("a", ()), ("b", ()))),
    ("store box lid:lid,size:0..9 lid of:box,w:0..5", SCHEMA), ("store store store:store", (("store", (("store", "store"),)),)),
    (f"store a x:-{BIG}..{BIG}", (("a", (("x", (-BIG, BIG)),)),)), ("store a l:b b l:a", (("a", (("l", "b"),)), ("b", (("l", "a"),)))),
    ("store none none:none", (("none", (("none", "none"),)),)),
)
WRONG_SCHEMAS = (
    ("", 0), (" ", 0), ("make a -", 0), ("Store a -", 0), ("store\n a -", 0), (" store a -", 0), ("a -", 0), ("store", 1), ("store ", 1), ("store a", 2),
    ("store a ", 2), ("store a - ", 3), ("store a - b", 4), ("store a - a -", 3), ("store b - a -", 3), ("store A -", 1), ("store - a", 1),
    ("store a a:0..1,a:0..2", 2), ("store a b:0..1,a:0..1", 2), ("store a x", 2), ("store a x:", 2), ("store a x:9..0", 2), ("store a x:0..9,", 2),
    ("store a x:00..9", 2), ("store a x:-0..9", 2), ("store a x:0..9\n", 2), ("store a -\n", 2), ("store a\n -", 1), ("store  a -", 1), ("store a  -", 2),
    (f"store a x:0..{BIG + 1}", 2), ("store abcdefghi -", 1), ("store a abcdefghi:0..1", 2), ("store a - b - c", 6), ("store a - b - b -", 5),
    # links to no class of the schema: the number of words
    ("store a l:b", 3), ("store a l:b b l:c", 5), ("store a l:a b l:c c m:d,n:e", 7), ("store a l:none", 3),
    ("store a l:b b", 4), ("store a l:b a -", 3),
)


class TestSteps(Case):
    """[66]: "shape"; [72], [73], [77]"""

    def test_is_step(self):
        for _, step in ROWS:
            self.exactly(is_step(thing=step), True)
        for step, _ in DONE:
            self.exactly(is_step(step), True)
        for thing in ((), None, 5, "close", *ODD, ("close", 0), ["close"], ("sweep", 0), ("touch", ()), ("touch", (0, 0)), ("make", "a", (True,))):
            self.exactly(is_step(thing), False)
        # a change is any value
        for thing in (*ODD, None, 5, [()]):
            self.exactly(is_step(("change", thing)), True)

    def test_random_steps(self):
        found = {True: 0, False: 0}
        for seed in range(60):
            run = StoreRun(random.Random(seed))
            for _ in range(30):
                step = run.some_step()
                if step is not None:
                    run.expect(step)
                    run.store.go(step)
                    for odd in (step, odd_step(run.rng, step)):
                        self.exactly(is_step(odd), has_shape(odd))
                        found[is_step(odd)] += 1
                        if is_step(odd) and odd[0] != "change":
                            self.exactly(read_step(step_row(odd)), odd)
        self.assertGreater(min(found.values()), 100)

    def test_is_log(self):
        self.exactly([is_log(thing=()), is_log(tuple(step for step, _ in DONE)), is_log((("close",), ("change", None)))], [True] * 3)
        odd = [thing for thing in ODD if thing != ()]
        for thing in (None, 5, "close", [("close",)], ("close",), (("close",), None), (("close",), ("close", 0)), (("drop", -1),), *odd):
            self.exactly(is_log(thing), False)


class TestRows(Case):
    """[72], [73], [77]"""

    def wrong(self, call, text, field, row=None):
        given = {} if row is None else {"row": row}
        self.refused(InvalidText, {"row": row or 0, "field": field}, call, text, **given)

    def test_example(self):
        self.exactly([schema_row(S), step_row(("make", "item", (None, 3))), step_row(("change", ()))],
                     ["store item next:item,x:0..9", "make item none,3", "change -"])
        self.refused(InvalidText, {"row": 0, "field": 1}, read_step, "touch 0,1,0")

    def test_steps(self):
        for text, step in ROWS:
            self.exactly([read_step(text=text), step_row(step=step), read_step(text, row=7)], [step, text, step])

    def test_wrong_steps(self):
        for text, field in WRONG:
            self.wrong(read_step, text, field)
            self.wrong(read_step, text, field, 3)

    def test_open_operations(self):
        deep = "change convert a x:0..9 " + "+ 1 " * 30 + "1"
        self.exactly(step_row(read_step(deep)), deep)
        self.wrong(read_step, "change convert a x:0..9 " + "+ 1 " * 31 + "1", 64)

    def test_schemas(self):
        for text, schema in SCHEMAS:
            self.exactly([read_schema(text=text), schema_row(schema=schema), read_schema(text, row=2)], [schema, text, schema])
        for text, field in WRONG_SCHEMAS:
            self.wrong(read_schema, text, field)
            self.wrong(read_schema, text, field, 9)
        for seed in range(50):
            schema = random_schema(random.Random(seed))
            self.exactly(read_schema(schema_row(schema)), schema)

    def test_logs(self):
        rows = [schema_row(SCHEMA), *[text for text, _ in ROWS]]
        log = tuple(step for _, step in ROWS)
        self.exactly([read_log(rows=rows), log_rows(log=log, schema=SCHEMA), log_rows(SCHEMA, ())], [(SCHEMA, log), rows, rows[:1]])
        self.exactly(read_log(rows[:1]), (SCHEMA, ()))
        before = list(rows)
        read_log(rows)
        self.exactly(rows, before)
        self.wrong(read_log, [], 0)

    def test_wrong_logs(self):
        rows = [schema_row(SCHEMA), *[text for text, _ in ROWS]]
        for text, field in WRONG[::7]:
            for k in (1, 3, len(rows)):
                self.refused(InvalidText, {"row": k, "field": field}, read_log, rows[:k] + [text] + rows[k:])
                # the first of several that are not valid
                self.refused(InvalidText, {"row": k, "field": field}, read_log, rows[:k] + [text] + rows[k:] + ["drop", ""])
        for text, field in WRONG_SCHEMAS:
            self.refused(InvalidText, {"row": 0, "field": field}, read_log, [text, *rows[1:]])
            self.refused(InvalidText, {"row": 0, "field": field}, read_log, [text, "drop"])
        self.refused(InvalidText, {"row": 0, "field": 0}, read_log, [rows[1], rows[0]])
        self.refused(InvalidText, {"row": 1, "field": 0}, read_log, [rows[0], rows[0]])
        # a row with a newline is one row
        self.refused(InvalidText, {"row": 1, "field": 0}, read_log, [rows[0], "close\nclose"])

    def test_neither_barred_nor_fitting(self):
        """Whether a step is barred, and whether a change fits, is not checked."""
        self.exactly(read_log(["store a -", "drop 99", "release noon", "change convert z x:0..9 get q 0"])[1],
                     (("drop", 99), ("release", "noon"), ("change", (("z", (("x", (0, 9)),), (("get", ("q",), 0),)),))))

    def test_there_and_back(self):
        for seed in range(40):
            run = StoreRun(random.Random(seed))
            run.go_on(25)
            log = run.store.log()
            rows = log_rows(run.schema, log)
            self.exactly(read_log(rows), (run.schema, log))
            self.exactly(log_rows(*read_log(rows)), rows)
            self.exactly(str(run.store), " / ".join(rows[1:]) or "-")


class TestReplayed(Case):
    """[8], [77]"""

    def test_replayed(self):
        log = tuple(step for step, _ in DONE)
        store = replayed(log=log, schema=lateruns.SCHEMA)
        other = Store(lateruns.SCHEMA)
        self.exactly([other.go(step) for step in log], [answer for _, answer in DONE])
        self.exactly([store == other, store.late, store.counts(), store.log()], [True, other.late, (0, 0), log])
        self.exactly([replayed(S, ()) == Store(S), replayed(S, ()).counts()], [True, (0, 0)])

    def test_barred(self):
        self.refused(InvalidStep, {"step": ("drop", 0), "word": "number"}, replayed, S, (("sweep", 1), ("drop", 0), ("drop", 1)))
        self.refused(InvalidStep, {"step": ("close", 0), "word": "shape"}, replayed, S, (("close", 0),))


if __name__ == "__main__":
    unittest.main()
