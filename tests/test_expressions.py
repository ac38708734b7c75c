import random
import unittest

from lateforms.errors import UnfitExpression
from lateforms.expressions import fits, lets_expression, parts_of
from tests.randoms import random_expression, random_schema
from tests.samples import AREA, ODD, SCHEMA, Case

N = ("get", ("size",), 0)
C = ("none", ("lid",))
BIG = 7 ** 300


def deep(depth, inner=1):
    thing = inner
    for _ in range(depth):
        thing = ("+", thing, 2)
    return thing


class TestParts(Case):
    """[12]"""

    def test_example(self):
        self.exactly(
            list(parts_of(("<", 1, ("get", ("size",), 0)))),
            [((), ("<", 1, ("get", ("size",), 0))), ((1,), 1), ((2,), ("get", ("size",), 0))],
        )

    def test_preorder(self):
        whole = ("if", ("and", C, ("not", ("=", 1, 2))), ("-", 3, 4), ("sum", "box", "lid", "size"))
        self.exactly(
            [place for place, _ in parts_of(whole)],
            [(), (1,), (1, 1), (1, 2), (1, 2, 1), (1, 2, 1, 1), (1, 2, 1, 2), (2,), (2, 1), (2, 2), (3,)],
        )
        for place, part in parts_of(whole):
            found = whole
            for k in place:
                found = found[k]
            self.exactly(part, found)

    def test_leaves(self):
        for leaf in (5, -5, None, ("self",), ("to", ("lid",)), C, N, ("get", ("self",), 3), ("sum", "box", "lid", "size")):
            self.exactly(list(parts_of(expression=leaf)), [((), leaf)])

    def test_is_a_generator(self):
        walked = parts_of(deep(3))
        again = parts_of(deep(3))
        self.assertEqual(next(walked), next(again))
        self.assertEqual(next(walked), next(again))
        self.assertEqual(len(list(walked)), 5)
        walked.close()
        self.assertEqual(len(list(again)), 5)

    def test_a_path_is_no_part(self):
        self.exactly([place for place, _ in parts_of(("if", ("none", ("self",)), ("to", ("none",)), None))],
                     [(), (1,), (2,), (3,)])


class TestChecker(Case):
    """[5], [13], [16]"""

    def wrong(self, path, thing, kind=(0, 9), cls="box", schema=SCHEMA):
        self.refused(UnfitExpression, {"path": path}, lets_expression, schema, cls, kind, thing)
        self.exactly(fits(schema, cls, kind, thing), False)

    def right(self, count, thing, kind=(0, 9), cls="box", schema=SCHEMA):
        self.exactly(lets_expression(schema, cls, kind, thing), count)
        self.exactly(fits(schema, cls, kind, thing), True)
        self.assertEqual(len(list(parts_of(thing))), count)

    def test_example(self):
        self.exactly(
            [lets_expression(SCHEMA, "box", (0, 50), AREA), fits(SCHEMA, "box", "lid", ("self",)),
             fits(SCHEMA, "lid", "lid", ("self",))],
            [3, False, True],
        )
        self.wrong((2,), ("+", N, ("get", ("w",), 0)), (0, 50))

    def test_by_name(self):
        self.exactly(lets_expression(thing=AREA, kind=(0, 1), cls="box", schema=SCHEMA), 3)
        self.exactly(fits(thing=True, kind=(0, 1), cls="box", schema=SCHEMA), False)

    def test_numbers(self):
        for thing in (0, -3, BIG, -BIG, N, ("get", ("lid", "w"), -BIG), ("get", ("lid", "of", "size"), 0),
                      ("get", ("lid", "of", "lid", "of", "size"), 0)):
            self.right(1, thing)
        for word in ("+", "-", "*", "least", "most"):
            self.right(3, (word, N, BIG))
        self.right(4, ("if", C, 1, N))
        self.right(1, ("sum", "box", "lid", "size"), cls="lid")

    def test_conditions(self):
        for word in ("<", "="):
            self.right(3, (word, N, BIG), "condition")
        self.right(1, C, "condition")
        self.right(2, ("not", C), "condition")
        self.right(3, ("and", C, ("none", ("lid", "of"))), "condition")

    def test_links(self):
        self.right(1, None, "lid")
        self.right(1, None, "box")
        self.right(1, ("self",), "box")
        self.right(1, ("to", ("lid",)), "lid")
        self.right(1, ("to", ("lid", "of")), "box")
        self.right(4, ("if", C, ("self",), ("to", ("lid", "of"))), "box")

    def test_deep(self):
        self.right(61, deep(30, BIG))
        self.wrong((1,) * 30, deep(30, True))
        self.wrong((1,) * 29 + (2,), deep(29, ("+", 1, None)))
        condition = C
        for _ in range(30):
            condition = ("not", condition)
        self.right(31, condition, "condition")
        link = None
        for _ in range(30):
            link = ("if", C, ("to", ("lid",)), link)
        self.right(91, link, "lid")
        many = 1
        for _ in range(500):
            many = ("-", 0, many)
        self.right(1001, many)

    def test_wrong_kinds_of_values(self):
        for kind in ((0, 9), "lid", "box", "condition"):
            for thing in ODD:
                if isinstance(kind, tuple) and isinstance(thing, int) and not isinstance(thing, bool):
                    continue
                self.wrong((), thing, kind)
                if isinstance(kind, tuple):
                    self.wrong((2,), ("+", 1, thing), kind)
        for thing in (1.5, "5", [1], ["get", ("size",), 0], ["+", 1, 2]):
            self.wrong((), thing)

    def test_what_is_due(self):
        self.wrong((), C)
        self.wrong((), None)
        self.wrong((), ("self",))
        self.wrong((), ("to", ("lid",)))
        self.wrong((), 5, "condition")
        self.wrong((), N, "condition")
        self.wrong((), ("if", C, C, C), "condition")
        self.wrong((), 5, "lid")
        self.wrong((), N, "lid")
        self.wrong((), C, "lid")
        self.wrong((1,), ("if", 1, 1, 1))
        self.wrong((2,), ("if", C, None, 1))
        self.wrong((3,), ("if", C, 1, C))
        self.wrong((3,), ("if", C, None, 0), "lid")
        self.wrong((1,), ("<", None, 1), "condition")
        self.wrong((1,), ("not", 1), "condition")
        self.wrong((2,), ("and", C, True), "condition")

    def test_lengths_and_words(self):
        for thing in (
            (), ("get",), ("get", ("size",)), ("get", ("size",), 0, 0), ("+", 1), ("+", 1, 2, 3), ("if", C, 1),
            ("if", C, 1, 2, 3), ("sum", "box", "lid"), ("/", 1, 2), ("plus", 1, 2), (["+"], 1, 2), (True, 1, 2),
            (None,), (("+",), 1, 2), ("Get", ("size",), 0),
        ):
            self.wrong((), thing)
        for thing in (("<", 1), ("<", 1, 2, 3), (">", 1, 2), ("none",), ("none", ("lid",), 0), ("not",), ("not", C, C),
                      ("and", C), ("and", C, C, C), ("or", C, C)):
            self.wrong((), thing, "condition")
        for thing in (("self", 1), ("to",), ("to", ("lid",), 1), ("self",) * 2, "self", "lid", ("lid",)):
            self.wrong((), thing, "lid")

    def test_paths(self):
        for path in ((), ("w",), ("lid",), ("size", "size"), ("lid", "of"), ("lid", "size"), ["size"], "size", (1,),
                     (None,), (["size"],), (("size",),), None, ("lid", "w", "w"), (True,), ("none",)):
            self.wrong((), ("get", path, 0))
            self.wrong((1,), ("+", ("get", path, 0), ("get", path, 0)))
        for path in ((), ("size",), ("lid", "w"), ("of",), ("lid", "lid"), ["lid"], "lid", None):
            self.wrong((), ("none", path), "condition")
            self.wrong((), ("to", path), "lid")
        self.wrong((), ("to", ("lid",)), "box")
        self.wrong((), ("to", ("lid", "of")), "lid")

    def test_defaults(self):
        for default in (True, False, None, "0", (), [0], ("get", ("size",), 0)):
            self.wrong((), ("get", ("size",), default))

    def test_sums(self):
        for thing in (
            ("sum", "box", "lid", "lid"), ("sum", "box", "size", "size"), ("sum", "lid", "of", "w"),
            ("sum", "box", "lid", "w"), ("sum", "bag", "lid", "size"), ("sum", ["box"], "lid", "size"),
            ("sum", "box", ["lid"], "size"), ("sum", "box", "lid", None), ("sum", True, 1, 2), ("sum", "box", "size", "lid"),
        ):
            self.wrong((), thing, cls="lid")
        self.wrong((), ("sum", "box", "lid", "size"), cls="box")
        self.wrong((2, 1), ("if", C, ("-", ("sum", "box", "lid", "size"), None), True))

    def test_the_first_wrong_part_in_preorder(self):
        self.wrong((1,), ("+", True, False))
        self.wrong((1, 2), ("+", ("+", 1, True), False))
        self.wrong((), ("+", True))
        self.wrong((), ("plus", True, True))
        self.wrong((1, 1), ("if", ("not", ("not",)), True, True))
        self.wrong((2,), ("if", C, ("get", ("none",), 0), True))

    def test_a_class_that_there_is_not(self):
        self.right(1, None, "bag")
        self.right(4, ("if", C, None, None), "bag")
        self.right(7, ("if", C, None, ("if", C, None, None)), "bag")
        self.wrong((), ("self",), "bag")
        self.wrong((), ("to", ("lid",)), "bag")
        self.wrong((2,), ("if", C, ("self",), None), "bag")
        self.wrong((), 0, "bag")

    def test_random_ones_fit(self):
        for seed in range(300):
            rng = random.Random(seed)
            schema = random_schema(rng)
            cls = rng.choice(schema)[0]
            for kind in ((0, 3), "condition", "a", "b"):
                thing = random_expression(rng, schema, cls, kind)
                self.right(len(list(parts_of(thing))), thing, kind, cls, schema)


if __name__ == "__main__":
    unittest.main()
