import random
import unittest

from lateforms.comparing import difference, same_changes
from lateforms.differencechecker import lets_difference
from lateforms.errors import InvalidPaper, UnfitExpression
from lateforms.samechecker import lets_same
from lateforms.samepapers import same_paper
from tests.randoms import random_expression, random_plain, twisted
from tests.samples import ODD, PLAIN, Case
from tests.slowly import converted
from tests.ways import READ, SMALL, UP, small_schema

RING = (("c", (("n", (0, 9)), ("p", "c"))),)
SUMMED = (("c", (("n", (0, 9)), ("p", "c")), (("sum", "c", "p", "n"), ("to", ("p",)))),)
ONE = (SMALL, 1, ((0, "a", (None, 1)),))
TWO = (SMALL, 5, ((1, "a", (3, 0)), (3, "b", (2,)), (4, "a", (None, 0))))
NEW = (("c", (("k", (0, 1)),), None),)


class TestLetsDifference(Case):
    """[42]"""

    def wrong(self, word, thing, change=READ, other=(), schema=SMALL):
        self.refused(InvalidPaper, {"word": word, "at": -1}, lets_difference, schema, change, other, thing)

    def test_example(self):
        self.exactly(lets_difference(SMALL, READ, (), (ONE, 0, "x")), True)
        self.wrong("same", ((SMALL, 1, ((0, "a", (None, 0)),)), 0, "x"))

    def test_accepted(self):
        self.exactly(lets_difference(thing=(TWO, 1, "x"), other=(), change=READ, schema=SMALL), True)
        self.exactly(lets_difference(SMALL, (), READ, (TWO, 1, "x")), True)
        for plain in (ONE, TWO, (SMALL, 0, ())):
            self.exactly(lets_difference(SMALL, UP, (), (plain, None, None)), True)
            self.exactly(lets_difference(SMALL, (), NEW, (plain, None, None)), True)
        none = (("a", SMALL[0][1], (None, ("get", ("x",), 0))),)
        self.exactly(lets_difference(SMALL, none, (), (TWO, 1, "l")), True)

    def test_sums(self):
        plain = (RING, 2, ((0, "c", (5, 0)), (1, "c", (2, 0))))
        self.exactly(lets_difference(RING, SUMMED, (), (plain, 0, "n")), True)
        self.exactly(lets_difference(RING, (), SUMMED, (plain, 1, "n")), True)
        self.wrong("same", (plain, 0, "p"), SUMMED, (), RING)
        self.wrong("same", ((RING, 1, ((0, "c", (5, 0)),)), 0, "n"), SUMMED, (), RING)
        self.wrong("shape", 5, SUMMED, SUMMED, RING)

    def test_shape(self):
        for thing in (*ODD, None, 5, (), (ONE, 0), (ONE, 0, "x", 1), [ONE, 0, "x"], (ONE, None, "x"), (ONE, 0, None), (ONE, -1, "x"),
                      (ONE, True, "x"), (ONE, "0", "x"), (ONE, 0, "X"), (ONE, 0, 0), (ONE, 0, ("x",)), (5, 0, "x"), (None, None, None),
                      ((SMALL, 1, ((0, "a", (None, 4)),)), 0, "x"), ((SMALL, 1, ((0, "a", (0, 1)),)), 0, "x"),
                      ((SMALL, 0, ((0, "a", (None, 1)),)), None, None), (list(ONE), 0, "x"), (ONE, False, False)):
            self.wrong("shape", thing)
            self.wrong("shape", thing, UP)

    def test_store(self):
        self.wrong("store", (PLAIN, 0, "x"))
        self.wrong("store", (PLAIN, None, None))
        self.wrong("store", (PLAIN, None, None), UP)
        self.wrong("store", (((("a", (("l", "b"), ("x", (0, 4)))), SMALL[1]), 0, ()), 0, "x"))

    def test_schemas(self):
        self.wrong("schemas", (ONE, None, None))
        self.wrong("schemas", (ONE, None, None), READ, READ)
        self.wrong("schemas", (ONE, 0, "x"), UP)
        self.wrong("schemas", (ONE, 7, "q"), UP)
        self.wrong("schemas", (ONE, 0, "x"), READ, NEW)

    def test_object_field_same(self):
        self.wrong("object", (ONE, 1, "x"))
        self.wrong("object", (TWO, 0, "q"))
        self.wrong("field", (ONE, 0, "n"))
        self.wrong("field", (TWO, 3, "x"))
        # the fields after the changes
        moved = (("a", (("y", (0, 3)),), (("get", ("x",), 0),)),)
        turned = (("a", (("y", (0, 3)),), (("-", 3, ("get", ("x",), 0)),)),)
        self.wrong("field", (ONE, 0, "x"), moved, turned)
        self.exactly(lets_difference(SMALL, moved, turned, (ONE, 0, "y")), True)
        self.wrong("same", (ONE, 0, "x"), READ, READ)
        self.wrong("same", (ONE, 0, "l"))
        self.wrong("same", (TWO, 3, "n"))


class TestPapers(Case):
    """[42], [43]: each two changes have a same paper or a difference paper, and no two have both."""

    def test_same_paper(self):
        self.exactly(same_paper(SMALL, (), ()), ())
        self.exactly(same_paper(other=UP, change=(), schema=SMALL), None)
        self.exactly(same_paper(SMALL, READ, ()), None)
        self.exactly(lets_same(SMALL, READ, READ, same_paper(SMALL, READ, READ)), 6)
        self.exactly(same_paper(SMALL, NEW, NEW), ())

    def test_sums(self):
        for call in (same_paper, difference):
            self.refused(UnfitExpression, {"path": (0, 0, 0)}, call, RING, SUMMED, SUMMED)
            self.refused(UnfitExpression, {"path": (1, 0, 0)}, call, RING, NEW, SUMMED)

    def test_random(self):
        answers = {True: 0, False: 0}
        for seed in range(300):
            rng = random.Random(seed)
            schema = small_schema(rng)
            change = tuple(
                (cls, form, tuple(random_expression(rng, schema, cls, kind, 6, sums=False) for _, kind in form))
                for cls, form in schema if rng.random() < 0.7
            )
            other = tuple((cls, form, tuple(twisted(rng, part) if rng.random() < 0.8 else
                                            random_expression(rng, schema, cls, kind, 3, sums=False)
                                            for (_, kind), part in zip(form, parts))) for cls, form, parts in change)
            same, different = same_paper(schema, change, other), difference(schema, change, other)
            self.exactly([same is None, different is None], [different is not None, same_changes(schema, change, other)])
            answers[different is None] += 1
            if same is not None:
                lets_same(schema, change, other, same)
                self.no_difference(rng, schema, change, other)
            else:
                self.exactly(lets_difference(schema, change, other, different), True)

    def no_difference(self, rng, schema, change, other):
        plain = random_plain(rng, schema)
        for number, _, _ in plain[2]:
            for field in "fghi":
                with self.assertRaises(InvalidPaper):
                    lets_difference(schema, change, other, (plain, number, field))

    def test_random_sums(self):
        """What the checker accepts is true."""
        accepted = 0
        for seed in range(200):
            rng = random.Random(seed)
            schema = small_schema(rng)
            changes = [tuple((cls, form, tuple(random_expression(rng, schema, cls, kind, 4) for _, kind in form))
                             for cls, form in schema) for _ in range(2)]
            plain = random_plain(rng, schema)
            first, second = [converted(plain, change)[2] for change in changes]
            for k, (number, cls, _) in enumerate(plain[2]):
                for j, (field, _) in enumerate(dict(schema)[cls]):
                    if repr(first[k][2][j]) == repr(second[k][2][j]):
                        self.wrong_same(schema, changes, (plain, number, field))
                    else:
                        self.exactly(lets_difference(schema, *changes, (plain, number, field)), True)
                        accepted += 1
        self.assertGreater(accepted, 200)

    def wrong_same(self, schema, changes, thing):
        self.refused(InvalidPaper, {"word": "same", "at": -1}, lets_difference, schema, *changes, thing)


if __name__ == "__main__":
    unittest.main()
