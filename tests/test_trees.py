import random
import unittest

from lateforms.errors import UnfitExpression
from lateforms.trees import leaves_of, outcomes, tree_of
from tests.randoms import random_expression, random_schema
from tests.samples import AREA, SCHEMA, Case
from tests.ways import SMALL, end_kind, on_the_way, questions, small_schema, ways

LINK = (("a", (("l", "a"), ("m", "b"), ("x", (0, 1)))), ("b", (("l", "a"), ("y", (-1, 1)))))
X = ("get", ("x",), 0)


class TestTrees(Case):
    """[37]"""

    def tree(self, kind, expression, tree, cls="a"):
        self.exactly(tree_of(LINK, cls, kind, expression), tree)

    def test_example(self):
        self.exactly(
            tree_of(SMALL, "a", (0, 1), ("get", ("l", "n"), 0)),
            ("ask", ("l",), (("leaf", 0), ("ask", ("l", "n"), (("leaf", 0), ("leaf", 1), ("leaf", 1))))),
        )

    def test_by_name(self):
        self.exactly(tree_of(expression=5, kind=(0, 9), cls="a", schema=LINK), ("leaf", 5))
        self.exactly(outcomes(expression=5, kind=(0, 9), cls="a", schema=LINK), (5,))
        self.exactly(list(leaves_of(thing=("leaf", 5))), [5])

    def test_leaves_alone(self):
        self.tree((0, 9), 5, ("leaf", 5))
        self.tree((0, 9), -1, ("leaf", 0))
        self.tree((0, 9), 10, ("leaf", 9))
        self.tree((-3, -3), 10, ("leaf", -3))
        self.tree("a", None, ("leaf", None))
        self.tree("a", ("self",), ("leaf", ()))
        self.tree("a", ("if", ("<", 1, 2), ("self",), None), ("leaf", ()))
        self.tree("a", ("to", ("l",)), ("ask", ("l",), (("leaf", None), ("leaf", ("l",)))))

    def test_operations(self):
        for word, results in (("+", (2, 4)), ("-", (-2, -2)), ("*", (0, 3)), ("least", (0, 1)), ("most", (2, 3))):
            tree = ("ask", ("x",), (("leaf", results[0]), ("leaf", results[1])))
            self.tree((-9, 9), (word, X, ("+", X, 2)), tree)
            bounded = ("ask", ("x",), tuple(("leaf", max(0, min(3, result))) for result in results))
            self.tree((0, 3), (word, X, ("+", X, 2)), bounded)

    def test_conditions(self):
        for condition, first, second in (
            (("<", X, 1), 7, 8), (("=", X, 1), 8, 7), (("not", ("=", X, 1)), 7, 8),
            (("and", ("=", X, 1), ("=", 1, 1)), 8, 7), (("and", ("=", X, 1), ("=", 1, 2)), 8, 8),
        ):
            self.tree((0, 9), ("if", condition, 7, 8), ("ask", ("x",), (("leaf", first), ("leaf", second))))
        self.tree((0, 9), ("if", ("none", ("l",)), 7, 8), ("ask", ("l",), (("leaf", 7), ("leaf", 8))))

    def test_parts_that_are_not_evaluated(self):
        self.tree((0, 9), ("if", ("<", 1, 2), 7, X), ("leaf", 7))
        self.tree((0, 9), ("if", ("<", 2, 1), X, 7), ("leaf", 7))
        self.tree((0, 9), ("if", ("and", ("<", 2, 1), ("=", X, 1)), 7, 8), ("leaf", 8))
        self.tree((0, 9), ("if", ("and", ("=", X, 1), ("none", ("l",))), 7, 8),
                  ("ask", ("x",), (("leaf", 8), ("ask", ("l",), (("leaf", 7), ("leaf", 8))))))
        # what does not matter is read all the same
        self.tree((0, 9), ("*", 0, X), ("ask", ("x",), (("leaf", 0), ("leaf", 0))))
        self.tree((0, 9), ("if", ("=", X, 1), 7, 7), ("ask", ("x",), (("leaf", 7), ("leaf", 7))))

    def test_paths(self):
        three = ("ask", ("m", "l"), (("leaf", 4), ("ask", ("m", "l", "x"), (("leaf", 0), ("leaf", 1)))))
        self.tree((0, 9), ("get", ("m", "l", "x"), 4), ("ask", ("m",), (("leaf", 4), three)))
        self.tree((0, 9), ("get", ("m", "y"), 44),
                  ("ask", ("m",), (("leaf", 9), ("ask", ("m", "y"), (("leaf", 0), ("leaf", 0), ("leaf", 1))))))
        self.tree("b", ("to", ("l", "m")),
                  ("ask", ("l",), (("leaf", None), ("ask", ("l", "m"), (("leaf", None), ("leaf", ("l", "m")))))))

    def test_order_of_the_first_reads(self):
        below = ("ask", ("l",), (("leaf", 5), ("ask", ("l", "x"), (("leaf", 0), ("leaf", 1)))))
        self.tree((0, 9), ("+", ("*", X, 0), ("get", ("l", "x"), 5)), ("ask", ("x",), (below, below)))
        shared = ("if", ("none", ("l", "m")), ("get", ("l", "x"), 3), ("get", ("l", "m", "y"), 3))
        last = ("ask", ("l", "m"), (("ask", ("l", "x"), (("leaf", 0), ("leaf", 1))),
                                    ("ask", ("l", "m", "y"), (("leaf", 0), ("leaf", 0), ("leaf", 1)))))
        self.tree((0, 9), shared, ("ask", ("l",), (("leaf", 3), last)))

    def test_sums(self):
        bad = ("sum", "lid", "of", "w")
        for call in (tree_of, outcomes):
            self.refused(UnfitExpression, {"path": ()}, call, SCHEMA, "box", (0, 9), bad)
            self.refused(UnfitExpression, {"path": (1, 2)}, call, SCHEMA, "box", (0, 9), ("+", ("*", 1, bad), bad))
            self.refused(UnfitExpression, {"path": (1, 1, 1)}, call, SCHEMA, "box", "box",
                         ("if", ("not", ("=", bad, bad)), ("self",), None))

    def test_random_trees(self):
        found = 0
        for seed in range(400):
            rng = random.Random(seed)
            schema = small_schema(rng)
            cls, form = rng.choice(schema)
            kind = rng.choice([kind for _, kind in form] + [cls, (-2, 2), (0, 5)])
            expression = random_expression(rng, schema, cls, kind, 9, sums=False)
            tree = tree_of(schema, cls, kind, expression)
            self.exactly([result for _, result in ways(tree)], list(leaves_of(tree)))
            for way, result in ways(tree):
                asked, expected = on_the_way(rng, schema, cls, kind, expression, way)
                self.exactly([path for path, _ in way], asked)
                self.exactly(result, expected)
                found += 1
            for _, (word, path, branches) in questions(tree):
                end = end_kind(schema, cls, path)
                self.assertEqual(len(branches), 2 if isinstance(end, str) else end[1] - end[0] + 1)
        self.assertGreater(found, 1500)

    def test_large_random_schemas(self):
        for seed in range(100):
            rng = random.Random(seed)
            schema = random_schema(rng)
            cls = schema[0][0]
            for kind in (cls, (-3, 3)):
                expression = random_expression(rng, schema, cls, kind, 4, sums=False)
                for way, result in ways(tree_of(schema, cls, kind, expression)):
                    asked, expected = on_the_way(rng, schema, cls, kind, expression, way)
                    self.exactly(([path for path, _ in way], result), (asked, expected))


class TestOutcomes(Case):
    """[38]"""

    def test_example(self):
        expression = ("if", ("=", ("get", ("x",), 0), 3), None, ("to", ("l",)))
        self.exactly(outcomes(SMALL, "a", "b", expression), (None, ("l",)))

    def test_numbers(self):
        self.exactly(outcomes(SCHEMA, "box", (0, 50), AREA), (*range(11), 12, 14, 15, 16, 18, 20, 21, 24, 25, 27, 28, 30,
                                                              32, 35, 36, 40, 45))
        self.exactly(outcomes(LINK, "a", (-9, 9), ("-", 0, X)), (-1, 0))
        self.exactly(outcomes(LINK, "a", (3, 4), X), (3,))
        self.exactly(outcomes(LINK, "b", (-9, 9), ("*", ("get", ("y",), 0), ("get", ("y",), 0))), (0, 1))

    def test_links(self):
        choice = ("if", ("=", X, 0), ("to", ("l", "l")), ("if", ("none", ("l",)), ("self",), ("to", ("l",))))
        self.exactly(outcomes(LINK, "a", "a", choice), (None, (), ("l",), ("l", "l")))
        self.exactly(outcomes(LINK, "a", "a", ("if", ("none", ("l",)), ("self",), ("to", ("l",)))), ((), ("l",)))
        self.exactly(outcomes(LINK, "a", "a", None), (None,))
        self.exactly(outcomes(LINK, "a", "a", ("self",)), ((),))
        self.exactly(outcomes(LINK, "a", "a", ("if", ("=", X, 0), ("to", ("m", "l")), ("to", ("l",)))),
                     (None, ("l",), ("m", "l")))

    def test_random(self):
        for seed in range(200):
            rng = random.Random(seed)
            schema = small_schema(rng)
            cls, form = rng.choice(schema)
            kind = rng.choice([kind for _, kind in form] + [cls, (-2, 2)])
            expression = random_expression(rng, schema, cls, kind, 9, sums=False)
            results = {result for _, result in ways(tree_of(schema, cls, kind, expression))}
            there = sorted(results - {None})
            self.exactly(outcomes(schema, cls, kind, expression), tuple([None] * (None in results) + there))


class TestLeaves(Case):
    """[38]; [2]: a generator"""

    TREE = ("ask", ("l",), (("leaf", None), ("ask", ("x",), (("leaf", ()), ("leaf", ("l",)), ("leaf", None))), ("leaf", 7)))

    def test_from_the_left(self):
        self.exactly(list(leaves_of(self.TREE)), [None, (), ("l",), None, 7])
        self.exactly(list(leaves_of(("leaf", None))), [None])

    def test_twice_at_once(self):
        self.exactly(list(zip(leaves_of(self.TREE), leaves_of(self.TREE))),
                     [(None, None), ((), ()), (("l",), ("l",)), (None, None), (7, 7)])

    def test_left_early(self):
        for result in leaves_of(self.TREE):
            if result == ():
                break
        self.exactly(next(leaves_of(self.TREE)), None)


if __name__ == "__main__":
    unittest.main()
