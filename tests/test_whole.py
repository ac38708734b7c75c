import copy
import random
import unittest

from lateforms import chainchecker, freechecker, freeing, samechecker, stops, tellchecker
from lateforms.chains import chain_to, closed_set
from lateforms.changes import is_change, lets_change
from lateforms.closing import closed_up
from lateforms.conversions import Kept
from lateforms.desk import Desk
from lateforms.differencechecker import lets_difference
from lateforms.errors import LateError
from lateforms.expressions import fits, lets_expression
from lateforms.freepapers import free_paper
from lateforms.kinds import is_form, is_kind, is_name, is_schema
from lateforms.latecells import cell_value, read_cells
from lateforms.latechecker import lets_late
from lateforms.latesteps import converted, late_changed, late_made, late_released, late_written
from lateforms.plainchecker import is_plain, lets_plain
from lateforms.plainsteps import plain_step
from lateforms.replaying import is_log
from lateforms.stores import Store
from lateforms.storesteps import is_step
from lateforms.tellings import told_paper
from lateforms.terms import Condition, Term
from tests import lateruns
from tests.samples import ODD, PLAIN, SCHEMA, Case, nest
from tests.storeruns import S, StoreRun, odd_step
from tests.verdicts import verdict_of

LATE = lateruns.LATE
CELL = (1, 0, "size")
# functions that accept any value, as a function of that value alone
ANY = (
    is_name, is_kind, is_form, is_schema, is_plain, lets_plain, lets_late, is_step, is_log,
    lambda thing: fits(SCHEMA, "box", (0, 9), thing), lambda thing: lets_expression(SCHEMA, "box", "lid", thing),
    lambda thing: is_change(SCHEMA, thing), lambda thing: lets_change(SCHEMA, thing), lambda thing: plain_step(PLAIN, thing),
    lambda thing: samechecker.lets_same(SCHEMA, (), (), thing), lambda thing: lets_difference(SCHEMA, (), (), thing),
    lambda thing: tellchecker.lets_told(LATE, CELL, thing), lambda thing: tellchecker.lets_told(LATE, thing, ()),
    lambda thing: chainchecker.lets_chain(LATE, CELL, thing), lambda thing: chainchecker.lets_chain(LATE, thing, (CELL,)),
    lambda thing: chainchecker.lets_closed(LATE, CELL, thing), lambda thing: chainchecker.lets_closed(LATE, thing, (CELL,)),
    lambda thing: chain_to(LATE, thing), lambda thing: closed_set(LATE, thing), lambda thing: cell_value(LATE, thing),
    lambda thing: read_cells(LATE, thing), lambda thing: told_paper(LATE, thing), lambda thing: late_written(LATE, thing, "size", 3),
    lambda thing: late_written(LATE, 1, thing, 3), lambda thing: late_written(LATE, 1, "size", thing), lambda thing: late_made(LATE, thing),
    lambda thing: late_made(LATE, "item", None, thing), lambda thing: late_changed(LATE, thing), lambda thing: late_released(LATE, thing),
    lambda thing: converted(LATE, thing), lambda thing: freechecker.lets_free(LATE, "item", 0, "size", thing),
    lambda thing: freechecker.lets_free(LATE, thing, 0, "size", ()), lambda thing: freeing.to_free(LATE, thing, 0, "size"),
    lambda thing: freeing.old_cells(LATE, "item", thing, "size"), lambda thing: freeing.old_needed(LATE, "item", 0, thing),
    lambda thing: free_paper(LATE, "item", thing, "size"), lambda thing: stops.writes_of(LATE, thing),
    lambda thing: list(stops.stops_of(LATE, thing)), lambda thing: stops.write_done(LATE, thing), lambda thing: closed_up(lateruns.TWICE, thing),
    lambda thing: Store(S).go(thing), lambda thing: Store(S)(thing), lambda thing: Store(S).barred(thing), lambda thing: Store(S).tried(thing),
    lambda thing: Store(S).do_all(thing, keep=True), lambda thing: Store(S).make(thing, thing), lambda thing: Store(S).write(thing, thing, thing),
    lambda thing: Store(S).drop(thing), lambda thing: Store(S).change(thing), lambda thing: Store(S).keep(thing), lambda thing: Store(S).release(thing),
    lambda thing: Store(S).touch(thing), lambda thing: Store(S).sweep(thing), lambda thing: Store(S).set_pace(thing), lambda thing: thing in Store(S),
    lambda thing: Store(S)[thing], lambda thing: Store(S).object_of(thing), lambda thing: Store(S).value_of(thing, thing),
    lambda thing: Store(S).was(thing, thing, thing), lambda thing: Store(S) == thing, lambda thing: Store(S) != thing,
)
VALUES = (
    *ODD, nest(40), nest(40, list), [nest(39)], (nest(39, list),), "x" * 4000, "a\nb", [["a"], ("b", [1])], ((1, 2), [3, (4,)]), list(range(5000)),
    tuple((k, 0, "size") for k in range(1600)), (("box", (), ()),) * 1200, ("free", (), (), nest(38)), ("never", ((0, 0, "x"),) * 1000),
    ("make", "item", (None,) * 4990), ("touch", tuple(range(4990))), ("change", nest(39)), ("write", [0], (0,), nest(38, list)),
)


class TestAnyValues(Case):
    """[2], [9]: any values are accepted, and stay what they are; errors are those of the package."""

    def test_any_values(self):
        for call in ANY:
            for value in VALUES:
                before = copy.deepcopy(value)
                first = self.told(call, value)
                self.exactly(value, before)
                # results do not depend on earlier calls
                self.exactly(self.told(call, value), first)

    def told(self, call, value):
        try:
            return call(value)
        except LateError as e:
            self.assertIsInstance(e, ValueError)
            return (e.__class__.__name__, vars(e))

    def test_stores_beside_other_objects(self):
        store = Store(S)
        for other in (Term(1), Condition(("<", 1, 2)), Kept(S[0][1]), Desk(S), LateError(), object()):
            self.exactly([store == other, other == store, store != other, [store] == [other]], [False, False, True, False])
        for thing in (store, [store], (store,)):
            self.exactly([store.barred(thing), thing in store, store.barred(("drop", thing)), store.barred(("change", thing))],
                         ["shape", False, "shape", "change"])

    def test_subclasses_of_errors(self):
        """[9]: every error derives directly from its family, and each family from LateError."""
        families = {"PaperError": ["InvalidPaper"], "TextError": ["InvalidCommand", "InvalidText"],
                    "StoreError": ["GoneCell", "InvalidPace", "InvalidStep", "NothingToUndo", "UnfitExpression", "UnknownObject"]}
        self.assertEqual({family.__name__: sorted(error.__name__ for error in family.__subclasses__())
                          for family in LateError.__subclasses__()}, families)


class TestGuarantees(Case):
    """[8]: (C8), (C10) over the late stores of live Stores."""

    def test_stops_and_papers_of_live_stores(self):
        for seed in range(25):
            run = StoreRun(random.Random(seed), sums=seed % 2 == 0)
            run.go_on(25)
            late, history = run.store.late, run.history
            for number in run.pending():
                for stop in stops.stops_of(late, number):
                    lets_late(stop)
            for cell in lateruns.all_cells(history):
                if cell in lateruns.needed_in(late, history):
                    chainchecker.lets_chain(late, cell, chain_to(late, cell))
                    self.exactly(tellchecker.lets_told(late, cell, told_paper(late, cell)), lateruns.value_in(history, cell))
                else:
                    chainchecker.lets_closed(late, cell, closed_set(late, cell))
            for version, (schema, _, _) in enumerate(history[:-1]):
                for cls, field in [(cls, field) for cls, form in schema for field, _ in form]:
                    found = freeing.to_free(late, cls, version, field)
                    paper = free_paper(late, cls, version, field)
                    self.exactly(freechecker.lets_free(late, cls, version, field, paper), None if found is None else len(found))

    def test_refused_trials_leave_no_trace(self):
        """(C10)"""
        for seed in range(25):
            run = StoreRun(random.Random(seed))
            for _ in range(15):
                step = run.some_step()
                if step is not None:
                    run.expect(step)
                    run.store.go(step)
                    odd = odd_step(run.rng, step)
                    before = (run.store.late, run.store.log(), run.store.counts(), run.store.snapshots, run.store.pace)
                    try:
                        run.store.tried(step, odd, step)
                    except LateError:
                        pass
                    self.exactly((run.store.late, run.store.log(), run.store.counts(), run.store.snapshots, run.store.pace), before)

    def test_verdicts_do_not_change_papers(self):
        paper = ["never", [(0, 0, "x")]]
        self.exactly(verdict_of(freechecker.lets_free, LATE, "item", 0, "size", paper), ("shape", -1))
        self.exactly(paper, ["never", [(0, 0, "x")]])


if __name__ == "__main__":
    unittest.main()
