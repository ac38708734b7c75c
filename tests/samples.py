"""What many tests use: the examples of the document, odd values, and a look at errors."""

import unittest

SCHEMA = (("box", (("lid", "lid"), ("size", (0, 9)))), ("lid", (("of", "box"), ("w", (0, 5)))))
PLAIN = (SCHEMA, 3, ((0, "box", (1, 4)), (1, "lid", (0, 5)), (2, "box", (None, 9))))
AREA = ("*", ("get", ("size",), 0), ("get", ("lid", "w"), 1))
GROW = (("box", (("area", (0, 50)), ("lid", "lid")), (AREA, ("to", ("lid",)))),)
THIN = (("lid", (("half", (0, 20)),), (("get", ("of", "area"), 7),)),)


def nest(depth, shape=tuple):
    thing = shape()
    for _ in range(depth):
        thing = shape([thing])
    return thing


# values that are neither names, kinds, forms, schemas, expressions, stores nor changes
ODD = (
    True, False, -1, 10 ** 59, -(10 ** 59), "", "a b", "A", "\n", "a\n", "self", "gone", "-", "0",
    [], [1], ["a"], ("",), (None,), (True,), ((),), ("get",), ("self", 1), ("to",), (("a",),), [("a", ())],
    nest(40), nest(40, list), ("get", ["size"], 0), ("+", 1), ("+", 1, 2, 3), ("if", True, 1),
    (SCHEMA, 3), [SCHEMA, 3, ()], tuple(range(4000)),
)


class Case(unittest.TestCase):
    """A test case that looks at an error: its class, and its attributes with their kinds."""

    def refused(self, error, attributes, call, *given, **named):
        with self.assertRaises(error) as caught:
            call(*given, **named)
        self.assertIs(caught.exception.__class__, error)
        self.assertEqual(repr(vars(caught.exception)), repr(attributes))

    def exactly(self, one, other):
        """Equality by which True differs from 1, and a tuple from a list."""
        self.assertEqual(repr(one), repr(other))
