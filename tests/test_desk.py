import random
import unittest

from lateforms.desk import Desk
from lateforms.errors import InvalidCommand, InvalidStep, NothingToUndo, UnknownObject
from lateforms.steprows import schema_row, step_row
from lateforms.stores import Store
from tests import lateruns
from tests.samples import Case
from tests.storeruns import S, StoreRun, odd_step
from tests.test_rows import BIG, ROWS, WRONG, WRONG_SCHEMAS
from tests.test_stores import DONE

QUERIES = ("living", "pending", "version", "pace", "room", "snapshots", "schema", "undo", "count", "log", "table", "new")
# strings that are no commands
NO_COMMANDS = (
    "", " ", "\n", "-", "ok", "help", "Living", "living ", " living", "living living", "living 0", "living\n", "\nliving",
    *[word + " " for word in QUERIES], *[word + " x" for word in QUERIES], *[word + " 0" for word in QUERIES if word != "pace"], *[word + "\n" for word in QUERIES],
    "pace -", "pace x", "pace -1", "pace 01", "pace 0 0", "pace  0", "pace none",
    "value", "value ", "value 0", "value 0 ", "value 0 x ", "value 0 x x", "value x 0", "value -1 x", "value 0 X", "value 0 0", "value none x",
    "value  0 x", "value 0  x", "value 00 x", "value 0,1 x", "value 0 x,y", "value 0 x\n", "value 0\n x", f"value {BIG + 1} x", "value -0 x", "value 0 -",
    "was", "was noon", "was noon 0", "was noon 0 ", "was noon 0 x x", "was Noon 0 x", "was 0 noon x", "was noon x 0", "was noon -1 x", "was noon 0 X",
    "was - 0 x", "was noon none x", "was noonnoonn 0 x", "was noon  0 x", "was noon 0 x\n", f"was noon {BIG + 1} x",
    "object", "object ", "object x", "object 0 0", "object -1", "object none", "object 0 ", "object 01", "object 0,1", f"object {BIG + 1}",
    "bars", "bars ", "bars  close", "bars living", "bars bars close", "bars close ", "bars drop", "bars touch 0,0", "bars value 0 x", "bars try close",
    "bars close / close", "bars close\n", "bars undo", "bars pace", "bars store a -",
    "try", "try ", "try  close", "try living", "try close ", "try close /", "try close / ", "try / close", "try close /  close", "try close  / close",
    "try close/close", "try close / living", "try close / drop", "try close // close", "try close / / close", "try undo", "try close\n", "try try close",
    "try close\n/ close", "try -", "try pace", "try close / try close",
    "store a -", schema_row(S), "counts", "counts 0", "plain", "needed", "do close", "step close", "close / close", "value 0 x / value 0 x",
)


class TestExample(Case):
    def test_example(self):
        desk = Desk(S)
        self.exactly([desk.say("make item none,3"), desk.say("keep noon"), desk.say("write 0 x 5"), desk.say("was noon 0 x"), desk.say("table")],
                     ["0", "0", "ok", "3", "0  item  1  next=none,x=5"])

    def test_by_name(self):
        self.exactly(Desk(schema=S).say(text="new"), "ok")
        self.exactly(Desk(S).counts(), (0, 0))


class TestCommands(Case):
    """[76]"""

    def says(self, desk, *pairs):
        for text, answer in pairs:
            self.exactly(desk.say(text), answer)

    def test_steps(self):
        self.says(
            Desk(lateruns.SCHEMA), ("make crate 5", "0"), ("make item 0,3", "1"), ("make item none,4", "2"), ("write 2 box 0", "ok"),
            ("change " + "convert crate free:0..9 get free 0 load:0..99 sum item box size", "1"), ("touch 2,0", "2,0"), ("touch 0,2", "-"),
            ("keep noon", "1"), ("write 1 size 9", "ok"), ("drop 2", "ok"), ("sweep 1", "0"), ("sweep 5", "-"), ("pace 2", "ok"), ("change -", "3"),
            ("change -", "4"), ("release noon", "ok"), ("close", "1"), ("close", "0"), ("pace 0", "ok"), ("change -", "4"), ("sweep 9", "0,1"),
            ("write 1 box none", "ok"))

    def test_queries(self):
        desk = Desk(lateruns.SCHEMA)
        self.says(desk, ("living", "-"), ("pending", "-"), ("version", "0"), ("pace", "0"), ("room", "0"), ("snapshots", "-"),
                  ("schema", "crate free:0..9 item box:crate,size:0..9"), ("count", "0"), ("log", "-"), ("table", "-"))
        for step, _ in DONE[:10]:
            desk.say(step_row(step))
        self.says(desk, ("living", "0,1"), ("pending", "-"), ("version", "2"), ("pace", "0"), ("room", "10"), ("snapshots", "noon=1"), ("count", "10"),
                  ("schema", "crate free:0..9,load:0..99 item box:crate,size:0..9"), ("log", " / ".join(step_row(step) for step, _ in DONE[:10])),
                  ("table", "0  crate  2  free=5,load=7 / 1  item   2  box=0,size=9"))
        self.says(desk, ("value 0 load", "7"), ("value 1 box", "0"), ("object 0", "crate 5,7"), ("object 1", "item 0,9"), ("was noon 1 size", "3"),
                  ("was noon 2 box", "0"), ("write 1 box none", "ok"), ("value 1 box", "none"), ("object 1", "item none,9"), ("keep eve", "2"),
                  ("snapshots", "eve=2 noon=1"), ("pending", "0,1"), ("was eve 1 box", "none"), ("pace 3", "ok"), ("pace", "3"), ("pending", "-"))

    def test_no_fields(self):
        self.says(Desk((("a", ()),)), ("make a -", "0"), ("object 0", "a -"), ("table", "0  a  0  -"), ("schema", "a -"), ("room", "0"))

    def test_undo_and_new(self):
        desk = Desk(S)
        self.refused(NothingToUndo, {"count": 0}, desk.say, "undo")
        self.says(desk, ("make item none,3", "0"), ("change new tag", "1"), ("undo", "change new tag"), ("version", "0"), ("count", "1"),
                  ("pace 4", "ok"), ("keep noon", "0"), ("new", "ok"), ("count", "0"), ("snapshots", "-"), ("pace", "0"), ("living", "-"),
                  ("schema", "item next:item,x:0..9"), ("log", "-"))
        self.exactly(desk.counts(), (15, 15))

    def test_bars(self):
        desk = Desk(S)
        self.says(desk, ("bars make item none,3", "-"), ("bars make bag -", "class"), ("bars make item 3", "values"), ("bars drop 0", "number"),
                  ("make item none,3", "0"), ("bars drop 0", "-"), ("bars write 0 y 5", "field"), ("bars write 0 x 10", "value"), ("bars keep noon", "-"),
                  ("bars release noon", "name"), ("bars touch 1", "number"), ("bars sweep 1", "-"), ("bars pace 0", "-"), ("bars close", "-"),
                  ("bars change convert bag", "change"), ("bars change -", "-"), ("count", "1"))
        for k in range(5):
            desk.say("change -")
        self.says(desk, ("bars change -", "full"), ("bars keep noon", "full"))

    def test_try(self):
        desk = Desk(S)
        self.says(desk, ("try make item none,3", "2"), ("try make item none,3 / make item 0,4", "4"), ("count", "0"), ("living", "-"), ("room", "0"),
                  ("try close", "0"), ("make item none,3", "0"), ("try keep noon / write 0 x 5", "4"), ("try change - / sweep 1 / close", "2"))
        for text, step, word in (("try drop 1", ("drop", 1), "number"), ("try drop 0 / drop 0 / drop 7", ("drop", 0), "number"),
                                 ("try keep a / keep a", ("keep", "a"), "name")):
            self.refused(InvalidStep, {"step": step, "word": word}, desk.say, text)
        self.says(desk, ("count", "1"), ("snapshots", "-"))

    def test_errors_of_the_store(self):
        desk = Desk(S)
        desk.say("make item none,3")
        for text, error, attributes in (
            ("drop 9", InvalidStep, {"step": ("drop", 9), "word": "number"}), ("make item 3", InvalidStep, {"step": ("make", "item", (3,)), "word": "values"}),
            ("value 9 x", UnknownObject, {"number": 9}), ("value 0 y", InvalidStep, {"step": ("value", 0, "y"), "word": "field"}),
            ("object 9", UnknownObject, {"number": 9}), ("was noon 9 y", InvalidStep, {"step": ("was", "noon", 9, "y"), "word": "name"}),
            ("change convert a", InvalidStep, {"step": ("change", (("a", (), ()),)), "word": "change"}),
        ):
            started = desk.counts()[0]
            self.refused(error, attributes, desk.say, text)
            self.exactly(desk.counts(), (started + 1, started + 1))
        desk.say("keep noon")
        self.refused(InvalidStep, {"step": ("was", "noon", 9, "y"), "word": "number"}, desk.say, "was noon 9 y")
        self.refused(InvalidStep, {"step": ("was", "noon", 0, "y"), "word": "field"}, desk.say, "was noon 0 y")

    def test_no_commands(self):
        desk = Desk(S)
        desk.say("make item none,3")
        many = 1
        # what is no row of a step, but a query or, where a schema is due, a step
        rows = [text for text, _ in (*WRONG, *WRONG_SCHEMAS) if text not in ("undo", "pace", "make a -")]
        for text in (*NO_COMMANDS, *rows):
            self.refused(InvalidCommand, {"text": text}, desk.say, text)
            many += 1
            self.exactly(desk.counts(), (many, many))
        for text, _ in WRONG:
            for word in ("bars ", "try ", "try close / ", "try drop 99 / "):
                self.refused(InvalidCommand, {"text": word + text}, desk.say, word + text)
        self.exactly(desk.say("log"), "make item none,3")

    def test_rows_of_all_steps(self):
        """What can be read is a command: it is done or barred, but never invalid."""
        for text, step in ROWS:
            desk, store = Desk(S), Store(S)
            word = store.barred(step)
            self.exactly(desk.say("bars " + text), word or "-")
            if word is None:
                desk.say(text)
                self.exactly(desk.say("log"), text)
            else:
                for one in (text, "try " + text, "try close / " + text):
                    self.refused(InvalidStep, {"step": step, "word": word}, desk.say, one)


class TestRandomRuns(Case):
    """A desk beside a Store."""

    def test_runs(self):
        for seed in range(40):
            run = StoreRun(random.Random(seed))
            desk, store = Desk(run.schema), run.store
            asked = 0
            for _ in range(25):
                step = run.some_step()
                if step is None:
                    continue
                expected = run.expect(step)
                store.go(step)
                answer = desk.say(step_row(step))
                if expected is None or isinstance(expected, int):
                    self.exactly(answer, "ok" if expected is None else str(expected))
                else:
                    self.exactly(answer, ",".join(map(str, expected)) or "-")
                numbers = [number for number, _, _ in store.walk()]
                for text, answer in (
                    ("living", ",".join(map(str, numbers))), ("pending", ",".join(map(str, store.pending()))), ("version", str(store.version)),
                    ("room", str(store.room())), ("pace", str(store.pace)), ("log", str(store)), ("table", " / ".join(store.table())),
                    ("snapshots", " ".join(f"{name}={version}" for name, version in store.snapshots)), ("count", str(len(store.log()))),
                    ("store", None), ("schema", schema_row(store.schema)[6:]), ("bars " + step_row(step), store.barred(step) or "-"),
                ):
                    asked += 1
                    if answer is None:
                        self.refused(InvalidCommand, {"text": text}, desk.say, text)
                    else:
                        self.exactly(desk.say(text), answer or "-")
                asked += 1
            self.exactly(desk.counts(), (asked, asked))
            for step in store.log()[::-1]:
                self.exactly(desk.say("undo"), step_row(step))
            self.exactly(desk.say("log"), "-")

    def test_odd_steps(self):
        for seed in range(20):
            run = StoreRun(random.Random(seed))
            desk = Desk(run.schema)
            for _ in range(25):
                step = run.some_step(("make", "write", "drop", "keep", "release", "touch", "sweep", "pace", "close"))
                if step is not None:
                    odd = odd_step(run.rng, step)
                    word = run.store.barred(odd)
                    if word not in (None, "shape"):
                        self.exactly(desk.say("bars " + step_row(odd)), word)
                        self.refused(InvalidStep, {"step": odd, "word": word}, desk.say, step_row(odd))
                    run.expect(step)
                    run.store.go(step)
                    desk.say(step_row(step))


if __name__ == "__main__":
    unittest.main()
