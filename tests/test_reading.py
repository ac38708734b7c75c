import random
import unittest

from lateforms.errors import UnknownObject
from lateforms.reading import follow, holds_at, link_at, number_at, objects_of, reads_of
from tests.randoms import all_paths, random_expression, random_plain, random_schema
from tests.samples import AREA, ODD, PLAIN, Case
from tests.slowly import value_and_reads

# a ring 0 -> 1 -> 0, 2 links to itself, 4 links to nothing, and 3 was dropped
RING = (
    (("c", (("n", (0, 9)), ("p", "c"), ("q", "d"))), ("d", (("k", (-9, 9)), ("r", "c")))), 7,
    ((0, "c", (5, 1, None)), (1, "c", (6, 0, 5)), (2, "c", (7, 2, 5)), (4, "c", (8, None, 6)),
     (5, "d", (-2, 1)), (6, "d", (3, None))),
)


class TestReading(Case):
    """[4], [5], [15], [16]"""

    def test_examples(self):
        self.exactly(
            [follow(PLAIN, 0, "lid", "of"), follow(PLAIN, 2, "lid"), number_at(PLAIN, 0, AREA), number_at(PLAIN, 2, AREA)],
            [0, None, 20, 9],
        )
        self.exactly(
            [holds_at(PLAIN, 2, ("none", ("lid", "of"))), link_at(PLAIN, 1, ("self",)),
             number_at(PLAIN, 1, ("sum", "box", "lid", "size"))],
            [True, 1, 4],
        )
        self.exactly(
            [reads_of(PLAIN, 0, AREA), reads_of(PLAIN, 1, ("sum", "box", "lid", "size"))],
            [((0, "size"), (0, "lid"), (1, "w")), ((0, "lid"), (0, "size"), (2, "lid"))],
        )
        self.refused(UnknownObject, {"number": 5}, follow, PLAIN, 5)

    def test_by_name(self):
        self.exactly(follow(plain=PLAIN, number=0), 0)
        self.exactly(number_at(expression=AREA, number=0, plain=PLAIN), 20)
        self.exactly(link_at(expression=("to", ("lid",)), number=0, plain=PLAIN), 1)
        self.exactly(holds_at(condition=("=", 1, 1), number=0, plain=PLAIN), True)
        self.exactly(reads_of(expression=3, number=0, plain=PLAIN), ())
        self.exactly(list(objects_of(cls="box", plain=PLAIN)), [0, 2])

    def test_objects_of(self):
        self.exactly(list(objects_of(RING, "c")), [0, 1, 2, 4])
        self.exactly(list(objects_of((RING[0], 0, ()), "c")), [])
        first, second = objects_of(RING, "c"), objects_of(RING, "c")
        self.exactly([next(first), next(second), next(first), next(second)], [0, 0, 1, 1])
        first.close()
        self.exactly(list(second), [2, 4])

    def test_unknown_objects(self):
        for number in [*ODD, 3, 7, None, True, False, (0,), "0", [0]]:
            if number in (0, 1) and not isinstance(number, bool):
                continue
            for call in (
                lambda n: follow(RING, n), lambda n: follow(RING, n, "p"), lambda n: number_at(RING, n, 1),
                lambda n: link_at(RING, n, None), lambda n: holds_at(RING, n, ("=", 1, 1)), lambda n: reads_of(RING, n, 1),
            ):
                with self.assertRaises(UnknownObject) as caught:
                    call(number)
                self.assertIs(caught.exception.number, number)

    def test_unknown_object_before_all_else(self):
        for call in (follow, number_at, link_at, holds_at, reads_of):
            self.refused(UnknownObject, {"number": True}, call, PLAIN, True, ("nonsense",))

    def test_follow(self):
        self.exactly([follow(RING, 0), follow(RING, 4)], [0, 4])
        self.exactly([follow(RING, 0, "p"), follow(RING, 0, "p", "p"), follow(RING, 0, "p", "p", "p")], [1, 0, 1])
        self.exactly([follow(RING, 2, "p", "p"), follow(RING, 4, "p", "p"), follow(RING, 1, "q", "r", "q")], [2, None, 5])
        self.exactly([follow(RING, 0, "q", "r"), follow(RING, 4, "q", "r"), follow(RING, 4, "q")], [None, None, 6])

    def test_numbers(self):
        get = ("get", ("p", "n"), -7)
        for own, value in ((0, 6), (1, 5), (2, 7), (4, -7)):
            self.exactly(number_at(RING, own, get), value)
        self.exactly(number_at(RING, 4, ("get", ("q", "r", "n"), 10 ** 50)), 10 ** 50)
        n, big = ("get", ("n",), 0), 10 ** 40
        for word, value in (("+", big + 5), ("-", 5 - big), ("*", 5 * big), ("least", 5), ("most", big)):
            self.exactly(number_at(RING, 0, (word, n, big)), value)
        self.exactly(number_at(RING, 0, ("-", big, n)), big - 5)
        self.exactly(number_at(RING, 0, ("if", ("<", n, 5), 1, 2)), 2)
        self.exactly(number_at(RING, 0, ("if", ("<", n, 6), 1, 2)), 1)
        deep = n
        for _ in range(30):
            deep = ("*", deep, 10 ** 9)
        self.exactly(number_at(RING, 0, deep), 5 * 10 ** 270)

    def test_conditions(self):
        n = ("get", ("n",), 0)
        for condition, holds in (
            (("<", n, 6), True), (("<", n, 5), False), (("=", n, 5), True), (("=", n, 6), False),
            (("none", ("q",)), True), (("none", ("p",)), False), (("none", ("q", "r")), True),
            (("not", ("=", n, 5)), False), (("and", ("=", n, 5), ("<", n, 6)), True),
            (("and", ("=", n, 5), ("<", n, 5)), False), (("and", ("<", n, 5), ("=", n, 5)), False),
        ):
            self.exactly(holds_at(RING, 0, condition), holds)

    def test_links(self):
        for link, value in (
            (None, None), (("self",), 0), (("to", ("p",)), 1), (("to", ("q",)), None), (("to", ("q", "r")), None),
            (("if", ("none", ("q",)), ("self",), None), 0), (("if", ("none", ("p",)), ("self",), None), None),
        ):
            self.exactly(link_at(RING, 0, link), value)
        for own in (0, 1, 2, 4):
            for path, kind in all_paths(RING[0], "c"):
                if isinstance(kind, str):
                    self.exactly(link_at(RING, own, ("to", path)) is None, holds_at(RING, own, ("none", path)))

    def test_sums(self):
        self.exactly([number_at(RING, own, ("sum", "c", "p", "n")) for own in (0, 1, 2, 4)], [6, 5, 7, 0])
        self.exactly([number_at(RING, own, ("sum", "c", "q", "n")) for own in (5, 6)], [13, 8])
        # own links to itself: it counts, too
        self.exactly(reads_of(RING, 2, ("sum", "c", "p", "n")),
                     ((0, "p"), (1, "p"), (2, "p"), (2, "n"), (4, "p")))

    def test_reads_of_paths(self):
        self.exactly(reads_of(RING, 0, ("get", ("p", "p", "n"), 0)), ((0, "p"), (1, "p"), (0, "n")))
        self.exactly(reads_of(RING, 2, ("get", ("p", "p", "n"), 0)), ((2, "p"), (2, "n")))
        self.exactly(reads_of(RING, 4, ("get", ("p", "p", "n"), 0)), ((4, "p"),))
        self.exactly(reads_of(RING, 4, ("none", ("q", "r", "p"))), ((4, "q"), (6, "r")))
        self.exactly(reads_of(RING, 1, ("to", ("q", "r"))), ((1, "q"), (5, "r")))
        self.exactly([reads_of(RING, 0, ("self",)), reads_of(RING, 0, None), reads_of(RING, 0, 5)], [(), (), ()])

    def test_reads_of_what_is_evaluated_only(self):
        n, p = ("get", ("n",), 0), ("get", ("p", "n"), 0)
        self.exactly(reads_of(RING, 0, ("if", ("none", ("q",)), n, p)), ((0, "q"), (0, "n")))
        self.exactly(reads_of(RING, 0, ("if", ("not", ("none", ("q",))), n, p)), ((0, "q"), (0, "p"), (1, "n")))
        self.exactly(reads_of(RING, 0, ("and", ("none", ("p",)), ("=", n, 1))), ((0, "p"),))
        self.exactly(reads_of(RING, 0, ("and", ("none", ("q",)), ("=", n, 1))), ((0, "q"), (0, "n")))
        self.exactly(reads_of(RING, 0, ("*", 0, p)), ((0, "p"), (1, "n")))
        self.exactly(reads_of(RING, 0, ("least", p, n)), ((0, "p"), (1, "n"), (0, "n")))

    def test_each_read_once_where_it_comes_first(self):
        n, p = ("get", ("n",), 0), ("get", ("p", "n"), 0)
        self.exactly(reads_of(RING, 0, ("+", n, ("+", p, ("+", n, p)))), ((0, "n"), (0, "p"), (1, "n")))
        self.exactly(reads_of(RING, 0, ("+", ("sum", "c", "p", "n"), n)),
                     ((0, "p"), (1, "p"), (1, "n"), (2, "p"), (4, "p"), (0, "n")))

    def test_as_evaluated_slowly(self):
        calls = {"condition": holds_at, (0, 3): number_at}
        for seed in range(400):
            rng = random.Random(seed)
            schema = random_schema(rng)
            plain = random_plain(rng, schema)
            for number, cls, _ in plain[2]:
                for kind in ((0, 3), "condition", rng.choice(schema)[0]):
                    expression = random_expression(rng, schema, cls, kind)
                    value, reads = value_and_reads(plain, number, expression)
                    self.exactly(calls.get(kind, link_at)(plain, number, expression), value)
                    self.exactly(reads_of(plain, number, expression), reads)


if __name__ == "__main__":
    unittest.main()
