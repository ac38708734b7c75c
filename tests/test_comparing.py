import random
import unittest

from lateforms.changes import changed, is_change, lets_change, schema_after
from lateforms.comparing import changes_nothing, commute, difference, same_changes, same_expressions
from lateforms.errors import UnfitExpression
from lateforms.joining import joined
from lateforms.plainchecker import is_plain
from tests.randoms import random_change, random_expression, random_plain, twisted
from tests.samples import Case
from tests.slowly import converted, held, value_and_reads
from tests.ways import READ, SMALL, UP, small_schema

RING = ((("c", (("n", (0, 9)), ("p", "c"))),), 1, ((0, "c", (5, 0)),))
X, N = ("get", ("x",), 0), ("get", ("n",), 0)
LINKS = (("a", (("l", "a"), ("m", "a"), ("x", (0, 1)))), ("b", (("k", "a"),)))
SUM = ("sum", "c", "p", "n")


def differs(plain, number, field, change, other):
    """Whether two changes give an object of a plain store different values in a field."""
    found = []
    for part in (change, other):
        schema, _, objects = converted(plain, part)
        cls, values = {n: row for n, *row in objects}[number]
        found.append(values[[name for name, _ in dict(schema)[cls]].index(field)])
    return repr(found[0]) != repr(found[1])


class TestSameExpressions(Case):
    """[40]"""

    def both(self, answer, cls, kind, one, other, schema=LINKS):
        self.exactly(same_expressions(schema, cls, kind, one, other), answer)
        self.exactly(same_expressions(schema, cls, kind, other, one), answer)

    def test_example(self):
        self.both(True, "a", (0, 3), ("+", X, X), ("*", X, 2), SMALL)
        self.both(True, "a", (0, 1), X, ("*", X, 7), SMALL)

    def test_by_name(self):
        self.exactly(same_expressions(other=2, expression=1, kind=(0, 5), cls="a", schema=SMALL), False)

    def test_numbers(self):
        self.both(False, "a", (0, 2), X, ("*", X, 7), SMALL)
        self.both(True, "a", (5, 9), 3, -3)
        self.both(True, "a", (5, 9), 5, X)
        self.both(True, "a", (-9, 1), 5, 1)
        self.both(False, "a", (-9, 2), 5, 1)
        self.both(True, "a", (0, 9), ("*", 0, X), 0)
        # they differ at one leaf alone
        self.both(False, "a", (0, 9), X, ("if", ("=", X, 3), 4, X), SMALL)
        self.both(False, "a", (0, 9), ("get", ("l", "n"), 0), ("get", ("l", "n"), 1), SMALL)
        self.both(True, "a", (1, 9), ("get", ("l", "n"), 0), ("get", ("l", "n"), 1), SMALL)

    def test_what_one_does_not_read(self):
        self.both(True, "a", (0, 9), ("if", ("none", ("l",)), 4, 4), 4)
        self.both(True, "a", (0, 9), ("if", ("none", ("l",)), X, X), X)
        self.both(False, "a", (0, 9), ("if", ("none", ("l",)), X, 0), X)
        self.both(True, "a", (0, 9), ("if", ("and", ("=", X, 1), ("=", X, 0)), ("get", ("l", "x"), 0), 5), 5)

    def test_links(self):
        self.both(True, "a", "a", ("to", ("l",)), ("if", ("none", ("l",)), None, ("to", ("l",))))
        self.both(False, "a", "a", ("to", ("l",)), ("if", ("none", ("l",)), ("self",), ("to", ("l",))))
        self.both(False, "a", "a", ("to", ("l",)), None)
        self.both(False, "a", "a", ("self",), None)
        # two paths, or a path and own, may lead to one object, but need not
        self.both(False, "a", "a", ("to", ("l",)), ("to", ("m",)))
        self.both(False, "a", "a", ("to", ("l",)), ("to", ("l", "l")))
        self.both(False, "a", "a", ("self",), ("if", ("none", ("l",)), ("self",), ("to", ("l",))))
        self.both(False, "b", "a", ("to", ("k",)), ("to", ("k", "m")))
        self.both(True, "b", "a", ("to", ("k", "m")), ("if", ("none", ("k", "m")), None, ("to", ("k", "m"))))
        same = ("if", ("=", X, 0), ("to", ("l",)), ("to", ("m",)))
        self.both(True, "a", "a", same, ("if", ("<", 0, X), ("to", ("m",)), ("to", ("l",))))
        self.both(False, "a", "a", same, ("if", ("<", 0, X), ("to", ("l",)), ("to", ("m",))))

    def test_sums(self):
        for n, pair in enumerate((((SUM), 1), (1, SUM))):
            self.refused(UnfitExpression, {"path": (n,)}, same_expressions, RING[0], "c", (0, 9), *pair)
        self.refused(UnfitExpression, {"path": (0, 2)}, same_expressions, RING[0], "c", (0, 9), ("+", 1, SUM), SUM)
        self.refused(UnfitExpression, {"path": (1, 1, 2, 1)}, same_expressions, RING[0], "c", "c", None,
                     ("if", ("=", 1, ("-", SUM, SUM)), None, ("self",)))
        self.refused(UnfitExpression, {"path": (0,)}, same_expressions, RING[0], "c", (0, 9), SUM, SUM)

    def test_random(self):
        answers = {True: 0, False: 0}
        for seed in range(600):
            rng = random.Random(seed)
            schema = small_schema(rng)
            cls, form = rng.choice(schema)
            kind = rng.choice([kind for _, kind in form] + [cls, (-3, 3), (0, 1)])
            one = random_expression(rng, schema, cls, kind, 9, sums=False)
            other = twisted(rng, one) if rng.random() < 0.7 else random_expression(rng, schema, cls, kind, 6, sums=False)
            answer = same_expressions(schema, cls, kind, one, other)
            self.both(answer, cls, kind, one, other, schema)
            answers[answer] += 1
            if answer:
                for _ in range(25):
                    plain = random_plain(rng, schema)
                    for number, name, _ in plain[2]:
                        if name == cls:
                            first, second = [held(kind, value_and_reads(plain, number, part)[0]) for part in (one, other)]
                            self.exactly(first, second)
            else:
                # a change that has the one, and one that has the other, differ in that field
                changes = [tuple((name, (("z", kind),), (part,)) if name == cls else (name, (), ())
                                 for name, _ in schema) for part in (one, other)]
                plain, number, field = difference(schema, *changes)
                self.assertEqual(field, "z")
                self.assertTrue(differs(plain, number, field, *changes))
        self.assertGreater(min(answers.values()), 60, answers)


class TestSameChanges(Case):
    """[36], [40], [42], [43]"""

    def same(self, answer, schema, change, other):
        for one, two in ((change, other), (other, change)):
            self.exactly(same_changes(schema, one, two), answer)
            paper = difference(schema, one, two)
            self.assertEqual(paper is None, answer)
            if paper is not None:
                self.check_difference(schema, one, two, paper)

    def check_difference(self, schema, change, other, paper):
        plain, number, field = paper
        self.assertIsInstance(paper, tuple)
        self.assertTrue(is_plain(plain))
        self.assertEqual(plain[0], schema)
        if schema_after(schema, change) != schema_after(schema, other):
            self.assertEqual((number, field), (None, None))
        else:
            self.assertTrue(differs(plain, number, field, change, other))

    def test_examples(self):
        self.exactly([commute(SMALL, UP, READ), changes_nothing(SMALL, (("b", (("n", (0, 2)),), (("most", N, 0),)),))],
                     [False, True])
        self.refused(UnfitExpression, {"path": (1, 0, 0)}, same_changes, RING[0], (),
                     (("c", (("n", (0, 9)), ("p", "c")), (("sum", "c", "p", "n"), None)),))

    def test_by_name(self):
        self.exactly(same_changes(other=UP, change=UP, schema=SMALL), True)
        self.exactly(difference(other=UP, change=UP, schema=SMALL), None)
        self.exactly(commute(other=READ, change=UP, schema=SMALL), False)
        self.exactly(changes_nothing(change=UP, schema=SMALL), False)

    def test_nothing(self):
        own = (("a", SMALL[0][1], (("to", ("l",)), X)),)
        self.exactly(changes_nothing(SMALL, ()), True)
        self.exactly(changes_nothing(SMALL, own), True)
        self.exactly(changes_nothing(SMALL, (("a", SMALL[0][1], (("to", ("l",)), ("least", X, 2))),)), False)
        self.exactly(changes_nothing(SMALL, (("a", SMALL[0][1], (None, X)),)), False)
        self.exactly(changes_nothing(SMALL, (("a", (("l", "b"), ("x", (0, 4))), (("to", ("l",)), X)),)), False)
        self.exactly(changes_nothing(SMALL, (("c", (), None),)), False)
        self.same(True, SMALL, own, ())
        self.same(True, SMALL, own, own)

    def test_a_class_that_only_one_converts(self):
        self.same(True, SMALL, UP, UP + ())
        self.same(True, SMALL, (("a", SMALL[0][1], (("to", ("l",)), X)), *UP), UP)
        self.same(False, SMALL, READ, ())
        self.same(False, SMALL, (("a", SMALL[0][1], (("to", ("l",)), ("-", 3, X))), *UP), UP)
        self.same(True, SMALL, (("a", SMALL[0][1], (("to", ("l",)), ("-", 3, ("-", 3, X)))),), ())

    def test_different_schemas(self):
        self.exactly(difference(SMALL, UP, ())[1:], (None, None))
        self.same(False, SMALL, UP, ())
        self.same(False, SMALL, (("c", (), None),), ())
        self.same(False, SMALL, (("c", (), None),), (("d", (), None),))
        self.same(True, SMALL, (("c", (), None),), (("c", (), None),))
        self.same(True, SMALL, (("b", (("z", "c"),), (None,)), ("c", (), None)),
                  (("b", (("z", "c"),), (("if", ("=", N, 1), None, None),)), ("c", (), None)))

    def test_links_that_may_lead_to_one_object(self):
        form = LINKS[0][1]
        swapped = (("a", form, (("to", ("m",)), ("to", ("l",)), X)),)
        self.same(False, LINKS, swapped, ())
        self.same(False, LINKS, (("a", form, (("to", ("l", "l")), ("to", ("m",)), X)),), ())
        self.exactly(commute(LINKS, swapped, swapped), True)
        self.same(True, LINKS, joined(LINKS, swapped, swapped), ())

    def test_sums_come_first(self):
        schema = RING[0]
        summed = (("c", (("n", (0, 9)), ("p", "c")), (SUM, None)),)
        deep = (("c", (("a", (0, 9)), ("n", (0, 9))), (("get", ("n",), 0), ("+", 1, ("*", SUM, SUM)))), ("d", (), None))
        for call in (same_changes, difference, commute):
            self.refused(UnfitExpression, {"path": (0, 0, 0)}, call, schema, summed, ())
            self.refused(UnfitExpression, {"path": (1, 0, 0)}, call, schema, (), summed)
            self.refused(UnfitExpression, {"path": (0, 0, 0)}, call, schema, summed, summed)
            self.refused(UnfitExpression, {"path": (0, 0, 0)}, call, schema, summed, deep)
            self.refused(UnfitExpression, {"path": (0, 0, 1, 2, 1)}, call, schema, deep, summed)
            self.refused(UnfitExpression, {"path": (1, 0, 1, 2, 1)}, call, schema, (), deep)
            # also where other is no change behind this one: the class is there already
            self.refused(UnfitExpression, {"path": (1, 0, 1, 2, 1)}, call, schema, (("d", (), None),), deep)
        self.refused(UnfitExpression, {"path": (0, 0, 1, 2, 1)}, changes_nothing, schema, deep)

    def test_random(self):
        answers = {True: 0, False: 0}
        for seed in range(300):
            rng = random.Random(seed)
            schema = small_schema(rng)
            change = tuple(
                (cls, form, tuple(random_expression(rng, schema, cls, kind, 6, sums=False) for _, kind in form))
                for cls, form in schema if rng.random() < 0.7
            )
            other = tuple((cls, form, tuple(
                twisted(rng, part) if rng.random() < 0.8 else random_expression(rng, schema, cls, kind, 3, sums=False)
                for (_, kind), part in zip(form, parts))) for cls, form, parts in change)
            if rng.random() < 0.2:
                other = other[:1]
            answer = same_changes(schema, change, other)
            self.same(answer, schema, change, other)
            answers[answer] += 1
            for _ in range(20 if answer else 0):
                plain = random_plain(rng, schema)
                self.exactly(converted(plain, change), converted(plain, other))
        self.assertGreater(min(answers.values()), 30)


class TestCommute(Case):
    """[43]"""

    def both(self, answer, schema, change, other):
        self.exactly(commute(schema, change, other), answer)
        self.exactly(commute(schema, other, change), answer)

    def test_no_changes_behind_each_other(self):
        new = (("c", (), None),)
        self.both(False, SMALL, new, new)
        # what READ reads is no field any more
        self.both(False, SMALL, (("b", (), ()),), READ)
        self.both(False, SMALL, (("b", (), ()),), UP)
        self.both(True, SMALL, (("b", (), ()),), (("a", (), ()),))

    def test_orders(self):
        form = (("n", (0, 2)),)
        self.both(True, SMALL, UP, (("a", (), ()),))
        self.both(True, SMALL, UP, (("c", (("k", "b"),), None),))
        self.both(True, SMALL, UP, ())
        self.both(True, SMALL, (), ())
        self.both(True, SMALL, (("b", form, (("+", N, 1),)),), (("b", form, (("+", N, 2),)),))
        self.both(False, SMALL, (("b", form, (("+", N, 1),)),), (("b", form, (("-", N, 1),)),))
        self.both(False, SMALL, (("b", form, (0,)),), (("b", form, (1,)),))
        self.both(True, SMALL, (("b", form, (0,)),), (("b", form, (0,)),))
        self.both(False, SMALL, UP, READ)
        self.both(False, SMALL, (("b", form, (("-", 2, N),)),), READ)
        self.both(True, SMALL, (("b", form, (("least", N, 5),)),), READ)
        self.both(True, SMALL, (("b", form, (N,)), ("d", (), None)), (("c", (("k", "a"),), None), *READ[:0]))

    def test_random(self):
        answers = {True: 0, False: 0}
        for seed in range(400):
            rng = random.Random(seed)
            schema = small_schema(rng)
            changes = [random_change(rng, schema, 3, sums=False) if rng.random() < 0.1 else tuple(
                (cls, form, tuple(
                    ("to" if isinstance(kind, str) else "get", (field,), 0)[:2 if isinstance(kind, str) else 3]
                    if rng.random() < 0.6 else random_expression(rng, schema, cls, kind, 3, sums=False)
                    for field, kind in form))
                for cls, form in schema if rng.random() < 0.6
            ) for _ in range(2)]
            answer = commute(schema, *changes)
            self.both(answer, schema, *changes)
            answers[answer] += 1
            one, two = changes
            fit = is_change(schema_after(schema, one), two) and is_change(schema_after(schema, two), one)
            if not fit:
                self.assertFalse(answer)
                continue
            orders = [joined(schema, one, two), joined(schema, two, one)]
            for order in orders:
                lets_change(schema, order)
            if not answer:
                plain, number, field = difference(schema, *orders)
                first, second = [changed(changed(plain, a), b) for a, b in ((one, two), (two, one))]
                self.assertNotEqual(repr(first), repr(second))
            for _ in range(20 if answer else 0):
                plain = random_plain(rng, schema)
                self.exactly(converted(converted(plain, one), two), converted(converted(plain, two), one))
        self.assertGreater(min(answers.values()), 60, answers)


if __name__ == "__main__":
    unittest.main()
