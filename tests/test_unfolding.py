import random
import unittest

from lateforms.errors import UnknownObject
from lateforms.plainchecker import is_plain
from lateforms.reading import follow, holds_at, link_at, number_at
from lateforms.unfolding import unfolded
from tests.randoms import all_paths, random_expression, random_plain, random_schema
from tests.samples import ODD, PLAIN, SCHEMA, Case

RING = ((("c", (("n", (0, 9)), ("p", "c"))),), 1, ((0, "c", (5, 0)),))
TWO = ((("c", (("l", "c"), ("n", (0, 9)), ("r", "c"))),), 9, ((2, "c", (5, 1, 5)), (5, "c", (None, 3, 2)), (8, "c", (2, 4, None))))


def walked(plain, number, depth):
    """The paths of links from an object, by length, then ascending."""
    schema, _, objects = plain
    cls = {n: name for n, name, _ in objects}[number]
    links = [path for path, kind in all_paths(schema, cls, depth) if isinstance(kind, str)]
    there = [path for path in links if follow(plain, number, *path) is not None]
    return [()] + sorted(there, key=lambda path: (len(path), path))


class TestUnfolded(Case):
    """[39]"""

    def test_example(self):
        self.exactly(unfolded(RING, 0, 2), (RING[0], 3, ((0, "c", (5, 1)), (1, "c", (5, 2)), (2, "c", (5, None)))))

    def test_by_name(self):
        self.exactly(unfolded(depth=0, number=0, plain=RING)[1:], (1, ((0, "c", (5, None)),)))

    def test_unknown(self):
        for number in (3, -1, None, "a", True, False, (0,), *ODD):
            self.refused(UnknownObject, {"number": number}, unfolded, PLAIN, number, 1)
        self.refused(UnknownObject, {"number": 1}, unfolded, TWO, 1, 0)

    def test_depths(self):
        self.exactly(unfolded(PLAIN, 0, 0), (SCHEMA, 1, ((0, "box", (None, 4)),)))
        self.exactly(unfolded(PLAIN, 0, 1), (SCHEMA, 2, ((0, "box", (1, 4)), (1, "lid", (None, 5)))))
        self.exactly(unfolded(PLAIN, 0, 2), (SCHEMA, 3, ((0, "box", (1, 4)), (1, "lid", (2, 5)), (2, "box", (None, 4)))))
        self.exactly(unfolded(PLAIN, 0, 3)[2][2:], ((2, "box", (3, 4)), (3, "lid", (None, 5))))
        for depth in range(4):
            self.exactly(unfolded(PLAIN, 2, depth), (SCHEMA, 1, ((0, "box", (None, 9)),)))
            self.exactly(unfolded(RING, 0, depth)[1], depth + 1)

    def test_one_object_for_several_paths(self):
        plain = TWO
        self.exactly(unfolded(plain, 2, 1)[1:], (3, ((0, "c", (1, 1, 2)), (1, "c", (None, 3, None)), (2, "c", (None, 3, None)))))
        self.exactly(unfolded(plain, 2, 2)[1:], (5, (
            (0, "c", (1, 1, 2)), (1, "c", (None, 3, 3)), (2, "c", (None, 3, 4)), (3, "c", (None, 1, None)),
            (4, "c", (None, 1, None)))))

    def test_random(self):
        for seed in range(200):
            rng = random.Random(seed)
            schema = random_schema(rng, fields=3)
            plain = random_plain(rng, schema)
            for number, cls, _ in plain[2]:
                for depth in range(4):
                    store = unfolded(plain, number, depth)
                    self.assertTrue(is_plain(store))
                    paths = walked(plain, number, depth)
                    self.exactly([store[0], store[1]], [schema, len(paths)])
                    self.check_objects(plain, number, store, paths, depth)
                    if depth < 3:
                        self.check_values(rng, plain, number, cls, store, paths, depth)

    def check_objects(self, plain, number, store, paths, depth):
        rows = {n: (cls, values) for n, cls, values in plain[2]}
        for k, path in enumerate(paths):
            cls, values = rows[follow(plain, number, *path)]
            expected = []
            for (field, kind), value in zip(dict(plain[0])[cls], values):
                if isinstance(kind, str):
                    value = None if value is None or len(path) == depth else paths.index(path + (field,))
                expected.append(value)
            self.exactly(store[2][k], (k, cls, tuple(expected)))

    def check_values(self, rng, plain, number, cls, store, paths, depth):
        """Values at object 0 are those at own, if no path is too long."""
        for kind, call in (((0, 9), number_at), ("condition", holds_at), (cls, link_at)):
            expression = random_expression(rng, plain[0], cls, kind, 9, sums=False)
            if too_long(expression, depth):
                continue
            value = call(plain, number, expression)
            copied = call(store, 0, expression)
            if call == link_at and copied is not None:
                copied = follow(plain, number, *paths[copied])
            self.exactly(copied, value)


def too_long(part, depth):
    if not isinstance(part, tuple):
        return False
    if part[0] == "get":
        return len(part[1]) > depth + 1
    if part[0] in ("none", "to"):
        return len(part[1]) > depth
    return any(too_long(inner, depth) for inner in part[1:])


if __name__ == "__main__":
    unittest.main()
