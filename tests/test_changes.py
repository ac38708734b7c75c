import random
import unittest

from lateforms.changes import changed, is_change, lets_change, schema_after
from lateforms.errors import InvalidPaper
from lateforms.kinds import is_schema
from lateforms.plainchecker import is_plain
from tests.randoms import random_change, random_plain, random_schema
from tests.samples import AREA, GROW, ODD, PLAIN, SCHEMA, THIN, Case
from tests.slowly import converted

KEEP = (("lid", "lid"), ("size", (0, 9)))
SAME = (("to", ("lid",)), ("get", ("size",), 0))


class TestChecker(Case):
    """[6], [23]"""

    def wrong(self, word, at, *rows):
        self.refused(InvalidPaper, {"word": word, "at": at}, lets_change, SCHEMA, rows)
        self.refused(InvalidPaper, {"word": word, "at": at}, changed, PLAIN, rows)
        self.exactly(is_change(SCHEMA, rows), False)

    def right(self, count, *rows):
        self.exactly(lets_change(SCHEMA, rows), count)
        self.exactly(is_change(SCHEMA, rows), True)

    def test_example(self):
        self.exactly([lets_change(SCHEMA, GROW), changed(PLAIN, GROW)[2]],
                     [1, ((0, "box", (20, 1)), (1, "lid", (0, 5)), (2, "box", (9, None)))])
        self.wrong("fit", (0, 0), ("box", (("area", (0, 50)),), (("get", ("w",), 0),)))

    def test_right_ones(self):
        self.right(0)
        self.right(1, ("box", KEEP, SAME))
        self.right(1, ("lid", (), ()))
        self.right(0, ("bag", (), None))
        self.right(2, ("bag", (("in", "tag"), ("own", "bag")), None), ("box", KEEP, SAME), ("lid", (), ()),
                   ("tag", (("box", "box"),), None))
        self.right(1, ("box", (("a", "new"), ("b", "new")), (None, ("if", ("none", ("lid",)), None, None))), ("new", (), None))
        self.exactly(lets_change(thing=(), schema=SCHEMA), 0)
        self.exactly(is_change(thing=GROW, schema=SCHEMA), True)

    def test_shape(self):
        for thing in ODD:
            if thing != ():
                self.refused(InvalidPaper, {"word": "shape", "at": -1}, lets_change, SCHEMA, thing)
                self.exactly(is_change(SCHEMA, thing), False)
        self.refused(InvalidPaper, {"word": "shape", "at": -1}, lets_change, SCHEMA, [])
        for row in (
            (), ("box", KEEP), ("box", KEEP, SAME, 1), ["box", KEEP, SAME], ("Box", KEEP, SAME), (True, KEEP, SAME),
            ("box", list(KEEP), SAME), ("box", KEEP[::-1], SAME), ("box", KEEP, list(SAME)), ("box", KEEP, False),
            ("box", (("a", (1, 0)),), (1,)), ("box", None, SAME), "box", 5, None,
        ):
            self.wrong("shape", -1, row)
            self.wrong("shape", -1, ("zoo", (), ()), ("box", KEEP, None), row)

    def test_classes(self):
        self.wrong("class", 1, ("lid", (), ()), ("box", (), ()))
        self.wrong("class", 1, ("lid", (), ()), ("lid", (), ()))
        self.wrong("class", 2, ("bag", (), None), ("lid", (), ()), ("kit", (), None))

    def test_new(self):
        self.wrong("new", 0, ("box", KEEP, None))
        self.wrong("new", 0, ("bag", (), ()))
        self.wrong("new", 1, ("bag", (), None), ("zoo", (("a", (0, 1)),), (1,)))

    def test_many(self):
        self.wrong("many", 0, ("box", KEEP, ()))
        self.wrong("many", 0, ("box", KEEP, (*SAME, 1)))
        self.wrong("many", 1, ("box", KEEP, SAME), ("lid", (), (1,)))

    def test_links(self):
        self.wrong("link", (0, 0), ("box", (("a", "bag"),), (None,)))
        self.wrong("link", (0, 1), ("bag", (("a", "bag"), ("b", "zoo")), None))
        self.wrong("link", (1, 0), ("box", (("a", "zoo"),), (None,)), ("lid", (("a", "bag"),), (None,)), ("zoo", (), None))

    def test_fit(self):
        for kind, wrong in (
            ((0, 1), None), ((0, 1), True), ((0, 1), ("self",)), ((0, 1), ("get", ("area",), 0)), ((0, 1), ("sum", "box", "lid", "size")),
            ("lid", ("self",)), ("lid", 0), ("box", ("to", ("lid",))), ("new", ("self",)), ("new", ("to", ("lid",))),
            ("new", ("if", ("none", ("lid",)), None, ("self",))),
        ):
            self.wrong("fit", (0, 1), ("box", (("a", (0, 0)), ("b", kind)), (5, wrong)), ("new", (("x", (0, 1)),), None))

    def test_paths_are_those_before_the_change(self):
        # lid gets a field "new" in the same change: box cannot read it yet
        new = ("lid", (("new", (0, 5)),), (1,))
        self.wrong("fit", (0, 0), ("box", (("a", (0, 5)),), (("get", ("lid", "new"), 0),)), new)
        self.right(2, ("box", (("a", (0, 5)),), (("get", ("lid", "w"), 0),)), new)

    def test_the_first_error_is_told(self):
        bad = ("box", (("a", "bag"), ("b", "zoo")), (5, 5))
        self.wrong("class", 1, ("lid", (("x", "bag"),), (5,)), ("bad", (("x", "bag"),), ()), ("box", KEEP, None))
        self.wrong("class", 1, ("lid", (), ()), ("box", (), None))
        self.wrong("new", 0, ("box", KEEP, None), ("box", KEEP, ()))
        self.wrong("many", 0, ("box", KEEP, ()), ("kit", (), ()))
        self.wrong("new", 1, bad, ("kit", (), ()))
        self.wrong("many", 1, bad, ("lid", (), (1,)))
        self.wrong("link", (0, 0), bad, ("lid", (("c", (0, 1)),), (None,)))
        self.wrong("link", (1, 0), ("box", KEEP, (5, None)), ("lid", (("a", "bag"),), (5,)))
        self.wrong("fit", (0, 0), ("box", KEEP, (5, None)), ("lid", (("a", "lid"),), (5,)))
        self.wrong("fit", (0, 1), ("box", KEEP, (None, None)), ("lid", (("a", "lid"),), (5,)))
        self.wrong("fit", (1, 0), ("box", KEEP, SAME), ("lid", (("a", "lid"), ("b", "lid")), (5, 5)))

    def test_random_ones(self):
        for seed in range(200):
            rng = random.Random(seed)
            schema = random_schema(rng)
            change = random_change(rng, schema)
            self.exactly(lets_change(schema, change), sum(row[2] is not None for row in change))


class TestConverting(Case):
    """[6], [24]"""

    def test_schema_after(self):
        self.exactly(schema_after(SCHEMA, GROW), (("box", GROW[0][1]), SCHEMA[1]))
        new = (("bag", (("b", "box"),), None), ("zoo", (), None))
        self.exactly(schema_after(change=new, schema=SCHEMA), (("bag", (("b", "box"),)), *SCHEMA, ("zoo", ())))

    def test_empty_change(self):
        self.exactly(schema_after(SCHEMA, ()), SCHEMA)
        self.exactly(changed(PLAIN, ()), PLAIN)
        self.exactly(changed(thing=(), plain=PLAIN), PLAIN)

    def test_bounds(self):
        for value, held in ((-10 ** 40, -2), (-3, -2), (-2, -2), (0, 0), (3, 3), (4, 3), (10 ** 40, 3)):
            change = (("box", (("a", (-2, 3)),), (value,)),)
            self.exactly([row[2] for row in changed(PLAIN, change)[2]], [(held,), (0, 5), (held,)])

    def test_all_on_the_store_before(self):
        swap = (("a", (("l", "a"), ("x", (0, 9)), ("y", (0, 9))),
                 (("to", ("l", "l")), ("get", ("y",), 0), ("get", ("l", "x"), 0))),)
        before = ((("a", (("l", "a"), ("x", (0, 9)), ("y", (0, 9)))),), 5,
                  ((0, "a", (1, 1, 2)), (1, "a", (3, 3, 4)), (3, "a", (0, 5, 6))))
        self.exactly(changed(before, swap), (before[0], 5, ((0, "a", (3, 2, 3)), (1, "a", (0, 4, 5)), (3, "a", (1, 6, 1)))))

    def test_two_classes_and_a_new_one(self):
        change = (("box", (("w", (0, 9)),), (("get", ("lid", "w"), 7),)), ("lid", (("n", (0, 99)), ("t", "tag")),
                  (("sum", "box", "lid", "size"), None)), ("tag", (("b", "box"),), None))
        self.exactly(changed(PLAIN, change), (
            (("box", change[0][1]), ("lid", change[1][1]), ("tag", change[2][1])), 3,
            ((0, "box", (5,)), (1, "lid", (4, None)), (2, "box", (7,))),
        ))

    def test_is_a_plain_store_as_converted_slowly(self):
        for seed in range(300):
            rng = random.Random(seed)
            schema = random_schema(rng)
            change = random_change(rng, schema)
            plain = random_plain(rng, schema)
            after = changed(plain, change)
            self.exactly(after, converted(plain, change))
            self.assertTrue(is_plain(after) and is_schema(schema_after(schema, change)))
            self.exactly(after[0], schema_after(schema, change))
            self.exactly([row[:2] for row in after[2]], [row[:2] for row in plain[2]])

    def test_thin_after_grow(self):
        self.exactly(changed(changed(PLAIN, GROW), THIN)[2], ((0, "box", (20, 1)), (1, "lid", (20,)), (2, "box", (9, None))))
        self.exactly(lets_change(SCHEMA, (("box", (("a", (0, 1)),), (AREA,)),)), 1)


if __name__ == "__main__":
    unittest.main()
