import random
import unittest

from lateforms.comparing import same_changes
from lateforms.errors import InvalidPaper, UnfitExpression
from lateforms.samechecker import lets_same
from lateforms.samepapers import same_paper
from lateforms.trees import leaves_of
from tests.randoms import random_expression, twisted
from tests.samples import ODD, Case, nest
from tests.ways import READ, SMALL, UP, small_schema

RING = (("c", (("n", (0, 9)), ("p", "c"))),)
SUMMED = (("c", (("n", (0, 9)), ("p", "c")), (("sum", "c", "p", "n"), None)),)
N3 = ("ask", ("n",), (("leaf", 1), ("leaf", 2), ("leaf", 3)))
UPPED = (("b", "n", N3),)
LINK = ("ask", ("l",), (("leaf", None), ("leaf", ("l",))))
NUMBER = ("ask", ("l",), (("leaf", 0), ("ask", ("l", "n"), (("leaf", 0), ("leaf", 1), ("leaf", 2)))))
READS = (("a", "l", LINK), ("a", "x", NUMBER))


class TestLetsSame(Case):
    """[41]"""

    def wrong(self, word, at, thing, change=READ, other=READ, schema=SMALL):
        self.refused(InvalidPaper, {"word": word, "at": at}, lets_same, schema, change, other, thing)

    def number(self, word, place, tree):
        """The tree of x is wrong, that of l is right."""
        self.wrong(word, (1, place), (READS[0], ("a", "x", tree)))

    def link(self, word, place, tree):
        self.wrong(word, (0, place), (("a", "l", tree), READS[1]))

    def test_example(self):
        tries = (("a", "l", LINK), ("a", "x", ("leaf", 0)))
        self.wrong("reads", (1, ()), tries)

    def test_accepted(self):
        self.exactly(lets_same(SMALL, READ, READ, READS), 6)
        self.exactly(lets_same(thing=UPPED, other=UP, change=UP, schema=SMALL), 3)
        self.exactly(lets_same(SMALL, (), (), ()), 0)
        self.exactly(lets_same(SMALL, (("b", (), ()),), (("b", (), ()),), ()), 0)
        self.exactly(lets_same(SMALL, (("c", (), None),), (("c", (), None),), ()), 0)

    def test_a_tree_that_asks_more(self):
        more = ("ask", ("x",), tuple([LINK] * 4))
        self.exactly(lets_same(SMALL, READ, READ, (("a", "l", more), READS[1])), 8 + 4)
        deep = ("ask", ("l",), (("leaf", None), ("ask", ("l", "n"), tuple([("leaf", ("l",))] * 3))))
        self.exactly(lets_same(SMALL, READ, READ, (("a", "l", deep), READS[1])), 4 + 4)

    def test_shape(self):
        for thing in (*ODD, None, 5, [], (READS[0],) + (5,), [*READS], (list(READS[0]), READS[1]), (READS[0][:2], READS[1]),
                      ((*READS[0], 1), READS[1]), (("A", "l", LINK), READS[1]), (("a", 5, LINK), READS[1]),
                      (("a", None, LINK), READS[1])):
            if thing not in ((),):
                self.wrong("shape", -1, thing)
        for tree in (None, 5, (), ("leaf",), ("leaf", 1, 2), ["leaf", 1], ("leaf", True), ("leaf", "l"), ("leaf", ["l"]),
                     ("leaf", ("A",)), ("leaf", ("l", 5)), ("leaf", ((),)), ("leaf", "gone"), ("ask", ("x",)),
                     ("ask", (), ()), ("ask", ["x"], ()), ("ask", "x", ()), ("ask", ("x",), []), ("ask", ("X",), ()),
                     ("ask", ("x",), (5,)), ("ask", ("x",), (("leaf", 1), None)), ("ask", ("x",), (), ()), ("tell", ("x",), ()),
                     (True, 1), nest(40), ("ask", ("x",), (("ask", ("x",), (("leaf", True),)),))):
            self.wrong("shape", -1, (READS[0], ("a", "x", tree)))
            self.wrong("shape", -1, (("a", "l", tree),), (), UP)

    def test_schemas(self):
        self.wrong("schemas", -1, READS, READ, UP)
        self.wrong("schemas", -1, (), UP, ())
        self.wrong("schemas", -1, (), (("c", (), None),), ())
        self.wrong("schemas", -1, (("q", "z", ("leaf", 99)),), (("c", (), None),), ())

    def test_rows(self):
        for thing in ((), READS[:1], READS[1:], READS[::-1], READS + READS, READS + UPPED, UPPED + READS,
                      (("a", "l", LINK), ("b", "x", NUMBER)), (("a", "l", ("leaf", 5)), ("a", "y", NUMBER)),
                      (("a", "l", LINK), ("a", "l", LINK)), (("b", "l", LINK), ("b", "x", NUMBER))):
            self.wrong("rows", -1, thing)
        self.wrong("rows", -1, READS, (), ())
        # of a class that only one of them converts, rows are due, of a new one none
        self.exactly(lets_same(SMALL, (), (("b", SMALL[1][1], (("get", ("n",), 0),)),), (
            ("b", "n", ("ask", ("n",), (("leaf", 0), ("leaf", 1), ("leaf", 2)))),)), 3)
        self.wrong("rows", -1, (), (), (("b", SMALL[1][1], (("get", ("n",), 0),)),))
        new = (("c", (("k", (0, 1)),), None),)
        self.wrong("rows", -1, (("c", "k", ("leaf", 0)),), new, new)

    def test_ask(self):
        for path in (("y",), ("n",), ("x", "n"), ("l", "x"), ("l", "n"), ("x", "x"), ("l", "l"), ("zz", "n")):
            self.number("ask", (), ("ask", path, (("leaf", 0),)))
        self.number("ask", (0,), ("ask", ("l",), (("ask", ("l", "n"), ()), ("leaf", 0))))
        self.number("ask", (0,), ("ask", ("l",), (("ask", ("l",), (("leaf", 0), ("leaf", 0))), ("leaf", 0))))
        self.number("ask", (1,), ("ask", ("l",), (("leaf", 0), ("ask", ("l",), (("leaf", 0), ("leaf", 0))))))
        self.number("ask", (1, 2), ("ask", ("l",), (("leaf", 0), ("ask", ("l", "n"), (
            ("leaf", 0), ("leaf", 1), ("ask", ("l", "n"), (("leaf", 2),) * 3))))))
        self.number("ask", (0, 1), ("ask", ("x",), (
            ("ask", ("l",), (("leaf", 0), ("ask", ("x",), ()))), ("leaf", 0), ("leaf", 0), ("leaf", 0))))
        self.number("ask", (0,), ("ask", ("x",), (("ask", ("l", "n"), ()),) * 4))

    def test_branches(self):
        leaf = ("leaf", 0)
        for many in (0, 1, 3, 4):
            self.number("branches", (), ("ask", ("l",), (leaf,) * many))
        for many in (0, 1, 2, 3, 5):
            self.number("branches", (), ("ask", ("x",), (leaf,) * many))
        for many in (0, 2, 4):
            self.number("branches", (1,), ("ask", ("l",), (leaf, ("ask", ("l", "n"), (leaf,) * many))))

    def test_reads(self):
        self.number("reads", (), ("leaf", 0))
        self.number("reads", (), ("leaf", None))
        self.number("reads", (0,), ("ask", ("x",), (("leaf", 0),) * 4))
        self.number("reads", (1,), ("ask", ("l",), (("leaf", 0), ("leaf", 0))))
        self.link("reads", (), ("leaf", ("l",)))
        # one reads, the other does not
        zero = (("a", SMALL[0][1], (None, 0)),)
        none = (("a", SMALL[0][1], (None, ("*", ("get", ("x",), 0), 0))),)
        asked = ("ask", ("x",), (("leaf", 0),) * 4)
        thing = (("a", "l", ("leaf", None)), ("a", "x", ("leaf", 0)))
        self.exactly(lets_same(SMALL, zero, zero, thing), 2)
        for pair in ((zero, none), (none, zero)):
            self.wrong("reads", (1, ()), thing, *pair)
            self.exactly(lets_same(SMALL, *pair, (thing[0], ("a", "x", asked))), 5)

    def test_result(self):
        for result in (1, -1, None, (), ("l",), ("x",)):
            self.number("result", (0,), ("ask", ("l",), (("leaf", result), ("leaf", 0))))
        for result in (0, 1, (), ("l",), ("l", "l"), ("m",)):
            self.link("result", (0,), ("ask", ("l",), (("leaf", result), ("leaf", ("l",)))))
        for result in (None, 0, (), ("l", "l"), ("x",)):
            self.link("result", (1,), ("ask", ("l",), (("leaf", None), ("leaf", result))))
        # the result of one, and not of the other
        other = (("b", (("n", (0, 3)),), (("+", ("get", ("n",), 0), 2),)),)
        self.wrong("result", (0, (0,)), UPPED, UP, other)
        self.wrong("result", (0, (0,)), UPPED, other, UP)
        # for the kind
        top = (("b", (("n", (0, 3)),), (("*", ("+", ("get", ("n",), 0), 1), 4),)),)
        self.exactly(lets_same(SMALL, top, top, (("b", "n", ("ask", ("n",), (("leaf", 3),) * 3)),)), 3)
        self.wrong("result", (0, (0,)), (("b", "n", ("ask", ("n",), (("leaf", 4),) * 3)),), top, top)

    def test_order(self):
        # the first row, and in it the first node in preorder, whatever else is wrong behind it
        bad = ("ask", ("x",), (("leaf", 5),))
        self.wrong("branches", (0, ()), (("a", "l", bad), ("a", "x", ("ask", ("q",), ()))))
        self.wrong("reads", (1, (0,)), (READS[0], ("a", "x", ("ask", ("x",), (("leaf", 5), bad, ("leaf", 0), ("leaf", 0))))))
        self.wrong("result", (1, (0,)), (READS[0], ("a", "x", ("ask", ("l",), (("leaf", 5), bad)))))
        self.wrong("branches", (1, (1,)), (READS[0], ("a", "x", ("ask", ("l",), (("leaf", 0), bad)))))
        self.wrong("ask", (1, ()), (READS[0], ("a", "x", ("ask", ("q",), (("leaf", 5),)))))
        self.wrong("ask", (1, (1,)), (READS[0], ("a", "x", ("ask", ("l",), (
            ("leaf", 0), ("ask", ("l",), (("leaf", 7),)))))))

    def test_sums_come_first(self):
        deep = (("c", (("a", (0, 9)),), (("+", 1, ("sum", "c", "p", "n")),)),)
        for thing in ((), None, 5, READS):
            self.refused(UnfitExpression, {"path": (0, 0, 0)}, lets_same, RING, SUMMED, deep, thing)
            self.refused(UnfitExpression, {"path": (1, 0, 0, 2)}, lets_same, RING, (), deep, thing)

    def test_all_papers(self):
        """Each two changes that are the same have a paper, and those that differ have none."""
        accepted = 0
        for seed in range(300):
            rng = random.Random(seed)
            schema = small_schema(rng)
            change = tuple(
                (cls, form, tuple(random_expression(rng, schema, cls, kind, 6, sums=False) for _, kind in form))
                for cls, form in schema
            )
            other = tuple((cls, form, tuple(twisted(rng, part) for part in parts)) for cls, form, parts in change)
            thing = same_paper(schema, change, change)
            if same_changes(schema, change, other):
                paper = same_paper(schema, change, other)
                many = sum(len(list(leaves_of(tree))) for _, _, tree in paper)
                self.exactly(lets_same(schema, change, other, paper), many)
                accepted += 1
            else:
                with self.assertRaises(InvalidPaper):
                    lets_same(schema, change, other, thing)
        self.assertGreater(accepted, 100)


if __name__ == "__main__":
    unittest.main()
