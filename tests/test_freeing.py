import itertools
import random
import unittest

from lateforms.errors import InvalidPaper, InvalidStep
from lateforms.freechecker import lets_free
from lateforms.freeing import old_cells, old_needed, to_free
from lateforms.freepapers import free_paper
from lateforms.latecells import fresh_late, needed
from lateforms.latechecker import lets_late
from lateforms.latesteps import converted, forgotten, late_changed, late_dropped, late_pinned, late_released, late_written
from tests.lateruns import CHAIN, CHANGE, HOPS, LATE, LATER, SCHEMA, TWICE, Run, all_cells, needed_in
from tests.randoms import random_expression
from tests.samples import ODD, Case
from tests.slowly import converted as slowly_converted
from tests.test_chains import BAD_CELL, NO_SHAPES
from tests.verdicts import free_verdict, is_freed, old_cells_in, pending_in, verdict_of

FREE = ("crate", 0, "free")
SIZE = ("item", 0, "size")
CELLS = needed(converted(LATER, 0))
OWN = ((0, 1, "free"), (0, 0, "free"))
PAPER = ("free", (0,), CELLS, (OWN, ()))
# both items and the crate are pending
ALL = needed(converted(LATE, 0, 1, 2))
SUM = ((0, 1, "load"), (1, 0, "size"))
FIRST = ((1, 1, "size"), (1, 0, "size"))
SECOND = ((2, 1, "size"), (2, 0, "size"))
TREE = (SUM, ((FIRST, ((SECOND, ()),)),))
# the first two of three versions are pinned
PINNED = late_pinned(late_pinned(fresh_late(SCHEMA)))
# the crate is gone, and in version 1, which is pinned, it told what the items were
DROPPED = (SCHEMA, (CHANGE, ()), (
    ("crate", 0, 2, 0, (5,)), ("item", 0, None, 0, (0, 3)), ("item", 0, None, 0, (None, 4))), (), (1,))
NO_FIELDS = (
    ("bag", 0, "free"), ("crate", 0, "size"), ("crate", 0, "load"), ("crate", 1, "free"), ("crate", 1, "load"), ("crate", 2, "free"),
    ("crate", -1, "free"), ("crate", True, "free"), ("crate", False, "free"), ("crate", None, "free"), ("crate", "0", "free"),
    ("crate", (0,), "free"), (None, 0, "free"), (5, 0, "free"), (["crate"], 0, "free"), (("crate",), 0, "free"), (True, 0, "free"),
    ("crate", 0, None), ("crate", 0, 0), ("crate", 0, ["free"]), ("crate", 0, ("free",)), ("crate", 0, True), ("Crate", 0, "free"),
    ("crate", 10 ** 59, "free"), ("item", 0, "load"), *[(thing, 0, "free") for thing in ODD],
    *[("crate", thing, "free") for thing in ODD], *[("crate", 0, thing) for thing in ODD],
)


class TestOldFields(Case):
    """[56]"""

    def test_example(self):
        self.exactly([old_needed(LATER, *SIZE), to_free(LATER, *SIZE), to_free(LATER, *FREE)],
                     [((1, 0, "size"), (2, 0, "size")), (0, 2), (0,)])
        self.exactly(to_free(late_pinned(LATE), "item", 1, "size"), None)
        self.refused(InvalidStep, {"step": ("free", "item", 1, "size"), "word": "field"}, to_free, LATE, "item", 1, "size")

    def test_by_name(self):
        self.exactly(old_cells(field="size", version=0, cls="item", late=LATER), ((1, 0, "size"), (2, 0, "size")))
        self.exactly(old_needed(field="size", version=0, cls="item", late=LATER), ((1, 0, "size"), (2, 0, "size")))
        self.exactly(to_free(field="size", version=0, cls="item", late=LATER), (0, 2))
        self.exactly(lets_free(thing=free_paper(field="free", version=0, cls="crate", late=LATER),
                               field="free", version=0, cls="crate", late=LATER), 1)

    def test_no_field(self):
        for field in NO_FIELDS:
            error = {"step": ("free", *field), "word": "field"}
            for call in (old_cells, old_needed, to_free, free_paper):
                self.refused(InvalidStep, error, call, LATE, *field)
            for thing in (None, PAPER, ("free",), ("never", ())):
                self.refused(InvalidStep, error, lets_free, LATE, *field, thing)
        for late in (fresh_late(SCHEMA), LATE[:1] + ((),) + LATE[2:]):
            self.refused(InvalidStep, {"step": ("free", *FREE), "word": "field"}, to_free, late, *FREE)

    def test_cells(self):
        self.exactly(old_cells(LATE, *FREE), ((0, 0, "free"),))
        # of all versions up to this one, in which there is such a field, whatever its kind; also of dropped objects
        self.exactly(old_cells(CHAIN, "a", 0, "x"), ((0, 0, "x"), (1, 0, "x"), (2, 0, "x")))
        self.exactly(old_cells(CHAIN, "a", 2, "x"), (
            (0, 0, "x"), (0, 1, "x"), (0, 2, "x"), (1, 0, "x"), (2, 0, "x"), (2, 1, "x"), (3, 2, "x")))
        self.exactly(old_cells(TWICE, "a", 1, "x"), ((0, 0, "x"), (0, 1, "x")))
        self.exactly(old_cells(PINNED, *FREE), ())
        # a field that is not there in between, and one that is not there before
        gap = (SCHEMA, ((("crate", (), ()),), (("crate", (("free", (5, 6)),), (5,)),), ()), LATE[2][:1], (), ())
        self.exactly(old_cells(gap, "crate", 2, "free"), ((0, 0, "free"), (0, 2, "free")))
        self.refused(InvalidStep, {"step": ("free", "crate", 1, "free"), "word": "field"}, old_cells, gap, "crate", 1, "free")
        # a class that did not exist
        new = (SCHEMA, ((("bag", (("n", (0, 1)),), None),), ()), (), (), ())
        self.exactly(old_cells(new, "bag", 1, "n"), ())
        self.refused(InvalidStep, {"step": ("free", "bag", 0, "n"), "word": "field"}, old_cells, new, "bag", 0, "n")

    def test_needed(self):
        self.exactly(old_needed(CHAIN, "a", 2, "x"), ((0, 0, "x"), (0, 1, "x"), (1, 0, "x"), (2, 1, "x"), (3, 2, "x")))
        self.exactly(old_needed(late_released(CHAIN, 1), "a", 2, "x"), ((3, 2, "x"),))
        self.exactly(old_needed(converted(LATE, 0, 1, 2), *SIZE), ())

    def test_freed_already(self):
        self.exactly(to_free(converted(LATE, 0), *FREE), ())
        self.exactly(to_free(PINNED, *FREE), ())
        self.exactly(free_paper(converted(LATE, 0), *FREE), ("free", (), needed(converted(LATE, 0)), ()))
        self.exactly(lets_free(PINNED, *FREE, free_paper(PINNED, *FREE)), 0)

    def test_to_free(self):
        # each item needs its own old size, and the crate that of both
        self.exactly(to_free(LATE, *SIZE), (0, 1, 2))
        self.exactly(to_free(LATE, "item", 0, "box"), (0, 1, 2))
        self.exactly(to_free(converted(LATE, 0, 1), *SIZE), (2,))
        self.exactly(to_free(TWICE, "a", 0, "x"), (0,))
        self.exactly(to_free(TWICE, "a", 1, "x"), (0,))
        # a pin asks for it
        self.exactly([to_free(CHAIN, "a", version, "x") for version in range(3)], [(0,), None, None])
        self.exactly([to_free(TWICE[:4] + ((1,),), "a", version, "x") for version in range(2)], [(0,), None])
        self.exactly(to_free(late_released(CHAIN, 1), "a", 2, "x"), (0,))
        # the crate was dropped, but a pinned version asks for what it told: that cannot be converted away
        self.exactly(lets_late(DROPPED), (3, 5))
        self.exactly(to_free(DROPPED, *SIZE), None)
        self.exactly(to_free(DROPPED, *FREE), None)
        self.exactly(to_free(late_released(DROPPED, 1), *SIZE), (1, 2))
        self.exactly(to_free(late_released(DROPPED, 1), *FREE), ())
        self.exactly(to_free(late_dropped(LATE, 0), *SIZE), (1, 2))
        # of a class that no change converts
        self.exactly(to_free(late_written(LATER, 2, "box", None), "item", 0, "box"), (0,))


class TestLetsFree(Case):
    """[57], [58]"""

    def wrong(self, word, at, thing, field=FREE, late=LATER):
        self.refused(InvalidPaper, {"word": word, "at": at}, lets_free, late, *field, thing)

    def test_example(self):
        self.exactly(lets_free(LATER, *FREE, PAPER), 1)
        self.wrong("lives", 0, ("never", OWN))
        self.wrong("there", 5, ("free", (0,), CELLS, ()), SIZE)

    def test_accepted(self):
        self.exactly(lets_free(LATE, *SIZE, ("free", (0, 1, 2), ALL, TREE)), 3)
        self.exactly(lets_free(LATE, *SIZE, ("free", (0, 1, 2), ALL, (SECOND, ((SUM, ((FIRST, ()),)),)))), 3)
        self.exactly(lets_free(converted(LATE, 0), *FREE, ("free", (), needed(converted(LATE, 0)), ())), 0)
        self.exactly(lets_free(CHAIN, "a", 2, "x", ("never", ((0, 1, "x"),))), None)
        self.exactly(lets_free(DROPPED, *SIZE, ("never", ((0, 1, "load"), (1, 0, "size")))), None)
        # more cells than are needed
        more = tuple(sorted((*CELLS, (1, 0, "size"))))
        self.exactly(lets_free(LATER, *FREE, ("free", (0,), more, (OWN, ()))), 1)

    def test_shape(self):
        for thing in (*ODD, None, 5, (), ("free",), ("never",), ("never", OWN, ()), PAPER[:3], (*PAPER, ()), [*PAPER], ("Free", *PAPER[1:]),
                      ("never", *PAPER[1:]), ("free", OWN), (None, OWN), (["never"], OWN), (True, *PAPER[1:]), ("none", OWN),
                      ("never", [*OWN]), ("never", None), ("never", 5), ("never", "a"), ("never", OWN[0]), ("never", (OWN,))):
            self.wrong("shape", -1, thing)
        for numbers in (None, 0, [0], "0", (None,), (-1,), (True,), (False,), ("0",), ((0,),), (0, None), (BAD_CELL,)):
            self.wrong("shape", -1, ("free", numbers, (BAD_CELL,), ()))
        for cells in (None, 5, [*CELLS], "a", CELLS[0], (CELLS,)):
            self.wrong("shape", -1, ("free", (9,), cells, ()))
        for tree in (None, 5, [], "a", True, OWN, OWN[0], (OWN,), (OWN, (), ()), [OWN, ()], (OWN, []), (OWN, None), (OWN, OWN), ((), None),
                     ([*OWN], ()), (OWN, ((),)), (OWN, ((OWN,),)), (OWN, ((OWN, ()), ())), (OWN, ((OWN, ((), ())),)), (OWN, (OWN, ())),
                     ((), ((), ()))):
            self.wrong("shape", -1, ("free", (9,), (BAD_CELL,), tree))
        for bad in NO_SHAPES:
            for cells in ((bad,), (BAD_CELL, bad), (bad, *CELLS), (*CELLS, bad)):
                self.wrong("shape", -1, ("never", cells))
                self.wrong("shape", -1, ("free", (9,), cells, ()))
                self.wrong("shape", -1, ("free", (9,), (BAD_CELL,), (cells, ())))
                self.wrong("shape", -1, ("free", (9,), (BAD_CELL,), ((BAD_CELL,), ((OWN, ()), (cells, ())))))
        tree = ()
        for _ in range(19):
            tree = ((), (tree,)) if tree else ((), ())
        self.wrong("number", 0, ("free", (9,), (BAD_CELL,), tree))

    def test_never_chain(self):
        for chain in ((), OWN[:1], OWN[1:], OWN[::-1], (BAD_CELL,), (*OWN, OWN[1]), (*OWN, BAD_CELL), SUM, (OWN[0], OWN[0]), (*OWN[:1], *OWN),
                      ((0, 1, "load"),), ((0, 1, "load"), (0, 0, "free"))):
            self.wrong("chain", -1, ("never", chain))
        # the field ends with this version
        self.wrong("chain", -1, ("never", ((0, 2, "x"),)), ("a", 1, "x"), TWICE)
        self.exactly(lets_free(TWICE[:4] + ((1,),), "a", 1, "x", ("never", ((0, 1, "x"),))), None)
        self.wrong("chain", -1, ("never", ((0, 1, "x"),)), ("a", 0, "x"), TWICE[:4] + ((1,),))

    def test_never_lives(self):
        self.wrong("lives", 0, ("never", ((0, 2, "x"), (0, 1, "x"), (0, 0, "x"))), ("a", 0, "x"), TWICE)
        self.wrong("lives", 0, ("never", ((0, 1, "x"), (1, 0, "x"))), ("a", 0, "x"), CHAIN)
        # the first cells are of an object that was dropped, the last one does not matter
        late = (CHAIN[0], CHAIN[1], (("a", 0, None, 0, (1, 3)), ("a", 0, None, 0, (None, 4)), ("a", 0, 2, 0, (1, 8))), (), (1,))
        self.exactly(lets_late(late), (3, 6))
        self.exactly(lets_free(late, "a", 0, "x", ("never", ((2, 1, "x"), (1, 0, "x")))), None)
        late = late[:4] + ((),)
        way = ((0, 3, "y"), (0, 2, "x"), (0, 1, "x"), (0, 0, "x"))
        self.wrong("chain", -1, ("never", way), ("a", 0, "x"), late)
        middle = ((("a", (("n", "a"), ("x", (0, 9)))),), (
            (("a", (("n", "a"), ("x", (0, 9))), (("to", ("n",)), ("get", ("n", "x"), 0))),),
            (("a", (("n", "a"), ("x", (0, 9))), (("to", ("n",)), ("get", ("n", "x"), 0))),),
        ), (("a", 0, 2, 0, (1, 3)), ("a", 0, None, 0, (0, 4))), (), (1,))
        self.exactly(lets_late(middle), (2, 4))
        self.exactly(lets_free(middle, "a", 0, "x", ("never", ((0, 1, "x"), (1, 0, "x")))), None)
        self.wrong("lives", 0, ("never", ((1, 2, "x"), (0, 1, "x"), (1, 0, "x"))), ("a", 0, "x"), middle)
        self.wrong("lives", 0, ("never", ((1, 1, "x"), (0, 0, "x"))), ("a", 0, "x"), middle)

    def test_number(self):
        last = (CELLS[::-1], ((BAD_CELL,), ()))
        for k, numbers in ((0, (1,)), (0, (3,)), (0, (10 ** 59,)), (1, (0, 0)), (1, (2, 0)), (1, (0, 1, 2)), (1, (0, 9)), (0, (9, 0))):
            self.wrong("number", k, ("free", numbers, *last))
            self.wrong("number", k, ("free", numbers, CELLS, ()))
        self.wrong("number", 2, ("free", (0, 2, 2), *last))
        for number in (1, 2):
            self.wrong("number", 0, ("free", (number,), *last), ("a", 0, "x"), CHAIN)

    def test_cells(self):
        tree = ((BAD_CELL,), ())
        for k, cells in ((0, (BAD_CELL,)), (len(CELLS), (*CELLS, BAD_CELL)), (1, CELLS[::-1]), (1, (CELLS[0], *CELLS)),
                         (0, (BAD_CELL, (0, 0, "free"))), (0, ((0, 2, "free"), *CELLS)), (2, (*CELLS[:2], CELLS[0], (0, 0, "free")))):
            self.wrong("cell", k, ("free", (0,), cells, tree))
        # what is gone behind the conversion
        late = forgotten(converted(LATE, 0))
        self.wrong("gone", 0, ("free", (), ((0, 0, "free"),), ()), FREE, late)
        self.wrong("gone", 0, ("free", (1,), ((0, 0, "free"), BAD_CELL), tree), FREE, late)
        late = forgotten(late_released(CHAIN, 1))
        self.wrong("gone", 1, ("free", (), ((0, 0, "n"), (0, 0, "x")), tree), ("a", 2, "x"), late)
        self.wrong("gone", 1, ("free", (), ((0, 0, "n"), (0, 1, "x")), tree), ("a", 2, "x"), late)
        # in the late store where the objects are converted: a row that is written over
        self.wrong("gone", 0, ("free", (0,), ((0, 0, "free"),), tree), SIZE, LATER)

    def test_there(self):
        tree = ((BAD_CELL,), ())
        for k, cell in enumerate(CELLS):
            if cell[1:] == (0, "size"):
                self.wrong("there", k, ("free", (0,), CELLS, tree), SIZE)
                self.wrong("there", k, ("free", (0,), (*CELLS[:k + 1], BAD_CELL), tree), SIZE)
                break
        self.wrong("there", 0, ("free", (), ((0, 0, "free"), (0, 0, "free")), tree))

    def test_asked_and_read(self):
        tree = ((BAD_CELL,), ())
        for cell in CELLS:
            rest = tuple(other for other in CELLS if other != cell)
            if cell[1] == 1:
                self.wrong("asked", cell, ("free", (0,), rest, tree))
            else:
                self.wrong("read", (rest.index((cell[0], 1, cell[2])), cell), ("free", (0,), rest, tree))
        self.wrong("asked", (0, 1, "free"), ("free", (0,), (), tree))
        self.wrong("read", (4, (2, 0, "box")), ("free", (0,), tuple(cell for cell in CELLS if cell[1] == 1), tree))

    def test_tree(self):
        self.wrong("tree", -1, ("free", (0,), CELLS, ()))
        self.wrong("tree", -1, ("free", (), needed(converted(LATE, 0)), (OWN, ())), FREE, converted(LATE, 0))
        self.wrong("tree", -1, ("free", (), needed(converted(LATE, 0)), ((), ())), FREE, converted(LATE, 0))

    def test_chain(self):
        for chain in ((), OWN[:1], OWN[1:], OWN[::-1], (BAD_CELL,), (*OWN, BAD_CELL), SUM, ((0, 1, "load"),)):
            self.wrong("chain", 0, ("free", (0,), CELLS, (chain, ())))
            self.wrong("chain", 0, ("free", (0,), CELLS, (chain, ((OWN, ()),))))
        for chain in ((), FIRST[:1], FIRST[1:], OWN, (BAD_CELL,), (SUM[0], BAD_CELL)):
            self.wrong("chain", 0, ("free", (0, 1, 2), ALL, (chain, TREE[1])), SIZE, LATE)
            self.wrong("chain", 1, ("free", (0, 1, 2), ALL, (SUM, ((chain, ((SECOND, ()),)),))), SIZE, LATE)
            self.wrong("chain", 2, ("free", (0, 1, 2), ALL, (SUM, ((FIRST, ((chain, ()),)),))), SIZE, LATE)
            # what stands behind it in preorder does not matter
            self.wrong("chain", 1, ("free", (0, 1, 2), ALL, (SUM, ((chain, ()),))), SIZE, LATE)

    def test_met(self):
        self.wrong("met", 1, ("free", (0, 1, 2), ALL, (SUM, ((SUM, ((SECOND, ()),)),))), SIZE, LATE)
        self.wrong("met", 2, ("free", (0, 1, 2), ALL, (SUM, ((FIRST, ((FIRST, ()),)),))), SIZE, LATE)
        self.wrong("met", 2, ("free", (0, 1, 2), ALL, (SUM, ((FIRST, ((SUM, (TREE, TREE)),)),))), SIZE, LATE)
        self.wrong("met", 1, ("free", (0, 1, 2), ALL, (SUM, ((SUM, ()),))), SIZE, LATE)

    def test_branches(self):
        self.wrong("branches", 0, ("free", (0,), CELLS, (OWN, ((OWN, ()),))))
        self.wrong("branches", 0, ("free", (0, 1, 2), ALL, (SUM, ())), SIZE, LATE)
        self.wrong("branches", 0, ("free", (0, 1, 2), ALL, (SUM, (TREE[1][0], TREE[1][0]))), SIZE, LATE)
        self.wrong("branches", 0, ("free", (0, 1, 2), ALL, (SUM, (((), ()), ((), ())))), SIZE, LATE)
        self.wrong("branches", 1, ("free", (0, 1, 2), ALL, (SUM, ((FIRST, ()),))), SIZE, LATE)
        self.wrong("branches", 2, ("free", (0, 1, 2), ALL, (SUM, ((FIRST, ((SECOND, ((OWN, ()),)),)),))), SIZE, LATE)

    def test_several_branches(self):
        """A chain that two objects meet parts the tree in two; nodes are counted in preorder."""
        late, field, paper = TWO
        self.exactly(lets_free(late, *field, paper), 2)
        _, numbers, cells, (chain, (left, right)) = paper
        self.wrong("chain", 2, ("free", numbers, cells, (chain, (left, ((), ())))), field, late)
        self.wrong("chain", 1, ("free", numbers, cells, (chain, (((), ()), ((), ())))), field, late)
        self.wrong("met", 2, ("free", numbers, cells, (chain, (left, left))), field, late)
        self.wrong("met", 1, ("free", numbers, cells, (chain, (right, right))), field, late)
        self.wrong("branches", 0, ("free", numbers, cells, (chain, (left, right, left))), field, late)
        self.wrong("branches", 1, ("free", numbers, cells, (chain, ((left[0], (right,)), right))), field, late)

    def test_papers_of_other_fields(self):
        for late in (LATE, LATER, CHAIN, DROPPED, TWICE):
            fields = [(cls, 0, field) for cls, form in late[0] for field, _ in form]
            papers = [(field, free_paper(late, *field)) for field in fields]
            for field, paper in papers:
                found = to_free(late, *field)
                self.exactly(lets_free(late, *field, paper), None if found is None else len(found))
                for other, thing in papers:
                    if other != field and thing[1] != ():
                        with self.assertRaises(InvalidPaper):
                            lets_free(late, *field, thing)


TWO_STAY = ((0, 2, "n"), (0, 1, "n"), (0, 0, "n"))
TWO_OTHER = ((1, 2, "n"), (1, 1, "n"), (1, 0, "n"))
TWO = (HOPS, ("a", 0, "n"), ("free", (0, 1), needed(converted(HOPS, 0, 1)), (
    ((0, 2, "x"), (1, 1, "x"), (1, 0, "n")), ((TWO_OTHER, ()), (TWO_STAY, ())))))


def dense_run(rng):
    """A run with many links, and changes one behind the other that read along them; little is converted."""
    run = Run(rng, objects=6)
    while not any(isinstance(kind, str) for _, form in run.history[0][0] for _, kind in form):
        run = Run(rng, objects=6)
    for _ in range(6):
        run.make()
    for _ in range(rng.randint(2, 4)):
        run.late = late_changed(run.late, change := reading_change(rng, run.history[-1][0]))
        run.history.append(slowly_converted(run.history[-1], change))
        for word in rng.choices(("write", "drop", "pin", "release", "convert", "forget", "prepare"), k=rng.randint(0, 2)):
            getattr(run, word)()
    return run


def reading_change(rng, schema):
    """A change that keeps the forms and converts most classes; fields get what is read along links."""
    rows = []
    for cls, form in schema:
        if rng.random() < 0.8:
            parts = tuple(own_part(field, kind) if rng.random() < 0.4 else random_expression(rng, schema, cls, kind, 3)
                          for field, kind in form)
            rows.append((cls, form, parts))
    return tuple(rows)


def own_part(field, kind):
    return ("to", (field,)) if isinstance(kind, str) else ("get", (field,), 0)


class TestRandomRuns(Case):
    """[56] to [58], [62], (C5)"""

    def fields(self, run):
        return [(cls, version, field) for version, (schema, _, _) in enumerate(run.history[:-1])
                for cls, form in schema for field, _ in form]

    def fewest(self, run, late, cells):
        """How many objects the smallest set has that frees the cells, by trying all of them."""
        pending = pending_in(late, run.history)
        for many in range(len(pending) + 1):
            if any(is_freed(late, run.history, numbers, cells) for numbers in itertools.combinations(pending, many)):
                return many
        return None

    def test_fewest(self):
        sizes = {}
        for seed in range(60):
            run = dense_run(random.Random(seed))
            fields = self.fields(run)
            for field in run.rng.sample(fields, min(4, len(fields))):
                self.check_field(run, run.late, field, sizes)
        self.assertGreater(min(sizes.get(size, 0) for size in (None, 0, 1, 2, 3)), 2, sizes)

    def check_field(self, run, late, field, sizes):
        cells = old_cells_in(late, run.history, *field)
        self.exactly(old_cells(late, *field), tuple(cells))
        self.exactly(old_needed(late, *field), tuple(cell for cell in cells if cell in needed_in(late, run.history)))
        found = to_free(late, *field)
        many = self.fewest(run, late, cells)
        sizes[many] = sizes.get(many, 0) + 1
        self.assertEqual(found if found is None else len(found), many)
        paper = free_paper(late, *field)
        self.assertEqual(paper[0], "never" if found is None else "free")
        self.exactly(lets_free(late, *field, paper), many)
        if found is not None:
            self.exactly([list(found), set(found) <= set(pending_in(late, run.history))], [sorted(set(found)), True])
            self.assertTrue(is_freed(late, run.history, found, cells))
            self.check_more(run, late, field, found)

    def check_more(self, run, late, field, found):
        """[62]: with more objects, too, and in earlier versions."""
        more = [number for number in pending_in(late, run.history) if number in found or run.rng.random() < 0.5]
        for version in range(field[1] + 1):
            if field[2] in dict(dict(run.history[version][0]).get(field[0], ())):
                self.exactly(old_needed(converted(late, *more), field[0], version, field[2]), ())

    def test_changed_papers(self):
        """(C10): what is accepted is true, and each error is the one that is stated first."""
        words = {}
        for seed in range(50):
            run = dense_run(random.Random(seed))
            fields = self.fields(run)
            papers = [free_paper(run.late, *field) for field in run.rng.sample(fields, min(8, len(fields)))]
            for field in run.rng.sample(fields, min(5, len(fields))):
                for _ in range(6):
                    self.check_paper(run, field, mangled(run, run.rng.choice(papers)), words)
                    self.check_paper(run, field, mangled(run, free_paper(run.late, *field)), words)
        for word in ("never", "free", "chain", "lives", "number", "cell", "there", "asked", "read", "tree", "met", "branches"):
            self.assertGreater(words.get(word, 0), 3, words)

    def check_paper(self, run, field, paper, words):
        expected = free_verdict(run.late, run.history, *field, paper)
        self.exactly(verdict_of(lets_free, run.late, *field, paper), expected)
        word = expected[0] if isinstance(expected, tuple) else paper[0]
        words[word] = words.get(word, 0) + 1
        if word in ("never", "free"):
            found = to_free(run.late, *field)
            self.exactly(expected, None if found is None else len(found))


def mangled(run, paper):
    """The paper with something changed, or as it is."""
    rng = run.rng
    cells = all_cells(run.history) + [BAD_CELL]
    if paper[0] == "never":
        return ("never", changed_cells(rng, paper[1], cells))
    _, numbers, closed, tree = paper
    what = rng.randrange(6)
    if what == 0:
        numbers = tuple(sorted(set((*numbers, rng.randrange(7)))))
    if what == 5 and tree:
        return ("never", tree[0])
    if what == 1:
        numbers = numbers[1:] if rng.random() < 0.5 else numbers[::-1]
    if what == 2:
        closed = changed_cells(rng, closed, cells)
    if what == 3:
        tree = changed_tree(rng, tree, cells)
    return ("free", numbers, closed, tree)


def changed_cells(rng, chain, cells):
    what = rng.randrange(4)
    k = rng.randrange(len(chain) + 1)
    if what == 0:
        return chain[:k] + (rng.choice(cells),) + chain[k:]
    if what == 1:
        return chain[:k] + chain[k + 1:]
    if what == 2:
        return tuple(sorted((*chain, rng.choice(cells))))
    return chain


def changed_tree(rng, tree, cells):
    if not tree:
        return rng.choice(((), ((), ())))
    chain, branches = tree
    what = rng.randrange(5)
    if what == 0:
        return (changed_cells(rng, chain, cells), branches)
    if what == 1:
        return (chain, (*branches, tree))
    if what == 2 or not branches:
        return (chain, branches[1:])
    k = rng.randrange(len(branches))
    if what == 3:
        return (chain, branches[:k] + (changed_tree(rng, branches[k], cells),) + branches[k + 1:])
    return (chain, branches[:k] + ((chain, branches[k][1]),) + branches[k + 1:])


if __name__ == "__main__":
    unittest.main()
