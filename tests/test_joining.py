import random
import unittest

from lateforms.changes import changed, is_change, schema_after
from lateforms.errors import UnfitExpression
from lateforms.expressions import fits
from lateforms.joining import joined, prefixed
from lateforms.reading import follow, holds_at, link_at, number_at, objects_of, reads_of
from tests.randoms import all_paths, random_change, random_expression, random_plain, random_schema
from tests.samples import AREA, GROW, PLAIN, SCHEMA, THIN, Case

CALLS = {"condition": holds_at, (0, 3): number_at}
SUM = ("sum", "lid", "of", "w")
CHAIN = (("a", (("l", "a"), ("m", "b"), ("x", (0, 9)))), ("b", (("k", (-5, 5)), ("r", "a"))))
PLAINS = (
    (CHAIN, 6, ((0, "a", (1, 4, 3)), (1, "a", (2, 5, 7)), (2, "a", (None, None, 9)), (3, "a", (3, 4, 1)),
                (4, "b", (-4, 1)), (5, "b", (5, None)))),
    (CHAIN, 3, ((0, "a", (None, None, 0)), (1, "a", (0, 2, 5)), (2, "b", (0, 1)))),
    (CHAIN, 0, ()),
)


def two_reads(plain, change, other, cls, field, own):
    """What the two changes read for a field of an object after both."""
    between = changed(plain, change)
    reads = []
    for number, name in cell_reads(between, other, cls, field, own):
        reads += cell_reads(plain, change, dict(row[:2] for row in plain[2])[number], name, number)
    return set(reads)


def cell_reads(plain, change, cls, field, own):
    for name, form, expressions in change:
        if name == cls:
            return reads_of(plain, own, expressions[[key for key, _ in form].index(field)])
    return ((own, field),)


class TestPrefixed(Case):
    """[30]"""

    def wrong(self, path, thing, *links):
        self.refused(UnfitExpression, {"path": path}, prefixed, thing, *links)

    def test_example(self):
        self.exactly(number_at(PLAIN, 1, prefixed(("+", ("get", ("size",), 0), 1), "of")), 5)
        self.wrong((2,), ("+", 1, SUM), "of")

    def test_without_a_path(self):
        for thing in (1, None, AREA, ("self",), ("none", ("lid",))):
            self.exactly(prefixed(thing), thing)
            self.exactly(prefixed(expression=thing), thing)

    def test_sums(self):
        for links in ((), ("of",), ("of", "lid")):
            self.wrong((), SUM, *links)
            self.wrong((1,), ("+", SUM, SUM), *links)
            self.wrong((1, 2), ("if", ("<", 1, SUM), SUM, 5), *links)
            self.wrong((2, 1), ("if", ("none", ("of",)), ("-", SUM, 1), SUM), *links)
            self.wrong((1, 1), ("and", ("=", SUM, 1), ("=", 1, SUM)), *links)
            self.wrong((1, 1, 1), ("if", ("not", ("=", SUM, 1)), None, ("self",)), *links)

    def test_a_path_to_none(self):
        for thing in (("get", ("size",), 5), ("to", ("lid",)), ("none", ("lid",)), ("self",), 5, None,
                      ("if", ("none", ("lid",)), ("get", ("size",), 0), 1), ("and", ("none", ("lid",)), ("=", 1, 1))):
            self.assertIn(reads_of(PLAIN, 2, prefixed(thing, "lid", "of")), ((), ((2, "lid"),)))
        self.exactly(link_at(PLAIN, 2, prefixed(("self",), "lid")), None)

    def test_value_and_reads(self):
        for seed in range(300):
            rng = random.Random(seed)
            schema = random_schema(rng)
            plain = random_plain(rng, schema)
            for cls, _ in schema:
                for path, end in all_paths(schema, cls):
                    if isinstance(end, str) and rng.random() < 0.3:
                        self.check(rng, plain, cls, path, end)

    def check(self, rng, plain, cls, path, end):
        for kind in ("condition", (0, 3), rng.choice(plain[0])[0]):
            expression = random_expression(rng, plain[0], end, kind, sums=False)
            behind = prefixed(expression, *path)
            self.assertTrue(fits(plain[0], cls, kind, behind))
            for own in objects_of(plain, cls):
                target = follow(plain, own, *path)
                value = CALLS.get(kind, link_at)(plain, own, behind)
                allowed = set(reads_of(plain, own, ("to", path)))
                if target is not None:
                    self.exactly(value, CALLS.get(kind, link_at)(plain, target, expression))
                    allowed |= set(reads_of(plain, target, expression))
                self.assertLessEqual(set(reads_of(plain, own, behind)), allowed)


class TestJoined(Case):
    """[31], [32], (C6)"""

    def check(self, schema, change, other, *plains):
        both = joined(schema, change, other)
        self.assertTrue(is_change(schema, both))
        self.exactly(schema_after(schema, both), schema_after(schema_after(schema, change), other))
        self.exactly([row[0] for row in both], sorted({row[0] for row in (*change, *other)}))
        for plain in plains:
            self.exactly(changed(plain, both), changed(changed(plain, change), other))
            for cls, form, expressions in both:
                self.exactly(expressions is None, cls not in dict(schema))
                for own in objects_of(plain, cls):
                    for (field, _), expression in zip(form, expressions):
                        self.assertEqual(set(reads_of(plain, own, expression)),
                                         two_reads(plain, change, other, cls, field, own))
        return both

    def test_example(self):
        self.exactly(changed(PLAIN, joined(SCHEMA, GROW, THIN))[2],
                     ((0, "box", (20, 1)), (1, "lid", (20,)), (2, "box", (9, None))))
        self.check(SCHEMA, GROW, THIN, PLAIN)
        self.exactly(joined(other=(), change=(), schema=SCHEMA), ())

    def one(self, link, other_form, other_expression, number=("get", ("x",), 0), kind=(0, 9)):
        """The first change gives a the link and the number; the other one reads them."""
        change = (("a", (("l", "a"), ("n", kind)), (link, number)),)
        other = (("a", (("z", other_form),), (other_expression,)),)
        return self.check(CHAIN, change, other, *PLAINS)

    def test_links_of_each_form(self):
        for link in (
            None, ("self",), ("to", ("l",)), ("to", ("l", "l")), ("to", ("m", "r")),
            ("if", ("none", ("l",)), ("self",), ("to", ("m", "r"))), ("if", ("<", ("get", ("x",), 0), 5), None, None),
            ("if", ("none", ("m", "r")), None, ("if", ("none", ("l",)), ("to", ("l",)), ("self",))),
            ("if", ("not", ("none", ("l",))), ("to", ("l", "l")), ("to", ("l",))),
            ("if", ("and", ("none", ("l",)), ("none", ("m",))), ("self",), ("to", ("l", "m", "r"))),
        ):
            for form, expression in (
                ((-99, 99), ("get", ("l", "n"), -7)), ((-99, 99), ("get", ("l", "l", "n"), -7)), ("a", ("to", ("l",))),
                ("a", ("to", ("l", "l"))), ("a", ("to", ("l", "l", "l"))), ("a", ("self",)),
                ((0, 1), ("if", ("none", ("l",)), 1, 0)), ((0, 1), ("if", ("none", ("l", "l")), 1, 0)),
                ((-99, 99), ("if", ("none", ("l",)), ("get", ("l", "n"), 5), ("get", ("n",), 8))),
                ((-99, 99), ("if", ("and", ("not", ("none", ("l",))), ("none", ("l", "l"))), ("get", ("l", "n"), 5), 1)),
                ("a", ("if", ("none", ("l", "l")), ("to", ("l",)), ("to", ("l", "l")))),
            ):
                for number in (3, 10 ** 9, ("get", ("m", "k"), -3), ("get", ("l", "m", "r", "x"), 8)):
                    self.one(link, form, expression, number)

    def test_ranges_between(self):
        for kind in ((0, 0), (2, 4), (-5, -2), (5, 99)):
            for number in (-99, 3, 99, ("-", ("get", ("x",), 0), 5), ("get", ("m", "k"), 50)):
                self.one(("to", ("l",)), (-999, 999), ("get", ("n",), 0), number, kind)
                self.one(("to", ("l",)), (-999, 999), ("*", ("get", ("l", "n"), 77), 3), number, kind)

    def test_defaults_are_those_of_the_outer_read(self):
        both = self.one(("to", ("l",)), (-99, 99), ("get", ("l", "n"), 50), ("get", ("l", "x"), 4))
        self.exactly([row[2] for row in changed(PLAINS[1], both)[2] if row[1] == "a"], [(50,), (4,)])

    def test_conditions_that_are_known_already(self):
        one, two = ("none", ("l",)), ("<", ("get", ("x",), 0), 5)
        three, four = ("none", ("l", "l")), ("none", ("m", "r", "l"))
        tests = [one, two, three, four, ("and", one, two), ("and", two, ("not", one)), ("not", ("and", one, two)),
                 ("and", ("not", three), two), ("not", ("not", two)), ("and", ("not", one), ("not", two))]
        first = (("b", (("k", (-5, 5)), ("r", "a")), (("get", ("r", "x"), 3), ("to", ("r", "l")))),)
        for outer in tests:
            for inner in tests:
                part = ("if", outer, ("if", inner, 1, 2), ("if", inner, 3, 4))
                link = ("if", outer, ("if", inner, ("self",), ("to", ("l",))), ("if", inner, None, ("to", ("l", "l"))))
                other = (("a", (("s", "a"), ("z", (0, 9))), (link, part)),)
                for change in ((), first):
                    self.check(CHAIN, change, other, *PLAINS)
                # the first change has the conditions in its link, the other one asks for the same again
                self.one(link, (0, 9), ("if", ("none", ("l",)), ("get", ("n",), 0), ("get", ("l", "l", "n"), 5)))

    def test_what_stands_for_none_stays(self):
        for missing in (5, 3, ("get", ("x",), 0), ("get", ("l", "x"), 8)):
            for path in (("l", "x"), ("l", "l", "x"), ("l", "m", "k"), ("m", "k"), ("m", "r", "x")):
                for asked in (("l",), ("m",), ("l", "l"), ("m", "r")):
                    for rest in (("get", path, 3), ("if", ("none", path[:-1]), 3, ("get", path, 5)),
                                 ("if", ("none", path[:-1]), missing, ("get", path, 5))):
                        other = (("a", (("z", (0, 9)),), (("if", ("none", asked), missing, rest),)),)
                        self.check(CHAIN, (), other, *PLAINS)
        for asked in (("l",), ("m",), ("l", "l")):
            for missing in (None, ("self",)):
                for path in (("l",), ("l", "l"), ("m", "r")):
                    other = (("a", (("z", "a"),), (("if", ("none", asked), missing, ("to", path)),)),)
                    self.check(CHAIN, (), other, *PLAINS)

    def test_a_link_is_read_behind_which_the_value_does_not_matter(self):
        both = self.one(("to", ("l",)), (0, 9), ("get", ("l", "n"), 4), 4)
        self.exactly(reads_of(PLAINS[0], 0, both[0][2][0]), ((0, "l"),))
        both = self.one(("if", ("none", ("m",)), None, None), (0, 9), ("get", ("l", "n"), 4))
        self.exactly(reads_of(PLAINS[0], 0, both[0][2][0]), ((0, "m"),))
        self.exactly([number_at(PLAINS[0], 0, both[0][2][0])], [4])

    def test_classes_that_the_first_change_adds(self):
        change = (("a", (("new", "c"), ("x", (0, 9))), (("if", ("none", ("l",)), None, None), 5)),
                  ("c", (("back", "a"), ("y", (0, 9))), None))
        for expression in (("get", ("new", "y"), 7), ("get", ("new", "back", "x"), 7),
                           ("if", ("none", ("new",)), 1, 2), ("if", ("none", ("new", "back")), 1, 2)):
            other = (("a", (("z", (0, 9)),), (expression,)),)
            both = self.check(CHAIN, change, other, *PLAINS)
            self.exactly(both[1], change[1])
            self.exactly(reads_of(PLAINS[0], 0, both[0][2][0]), ((0, "l"),))
        other = (("a", (("new", "c"), ("z", "a")), (("to", ("new",)), ("to", ("new", "back")))),
                 ("c", (("n", (0, 9)),), (("get", ("back", "x"), 3),)), ("d", (("c", "c"),), None))
        both = self.check(CHAIN, change, other, *PLAINS)
        self.exactly(both[1:], (("c", (("n", (0, 9)),), None), ("d", (("c", "c"),), None)))

    def test_classes_of_one_change_only(self):
        first = (("a", (("x", (0, 5)),), (("get", ("m", "k"), 3),)),)
        second = (("b", (("k", (0, 5)), ("r", "b")), (("get", ("r", "x"), 1), ("self",))),)
        both = self.check(CHAIN, first, second, *PLAINS)
        self.exactly(both[0], first[0])
        third = (("a", (("x", (0, 5)),), (("get", ("m", "r", "k"), 3),)),)
        self.check(CHAIN, second, third, *PLAINS)

    def test_the_empty_change(self):
        for plain in PLAINS:
            for seed in range(50):
                change = random_change(random.Random(seed), CHAIN, sums=False)
                self.check(CHAIN, change, (), plain)
                self.check(CHAIN, (), change, plain)

    def test_sums(self):
        total, fine = ("sum", "a", "l", "x"), ("get", ("x",), 0)
        form = (("n", (0, 9)), ("o", (0, 9)))

        def change(*expressions):
            return (("a", form, expressions),)

        later = (("aa", (), None), ("b", form, (("sum", "a", "m", "x"), 1)))
        other = (("a", (("z", (0, 9)),), (("-", 1, ("sum", "b", "r", "k")),)),)
        for path, first, second in (
            ((0, 0, 0), change(total, total), ()),
            ((0, 0, 1), change(fine, total), ()),
            ((0, 0, 1, 2), change(fine, ("+", 1, total)), other),
            ((0, 0, 0, 1, 1), change(("if", ("=", total, 1), 1, total), total), ()),
            ((0, 1, 0), later, ()),
            ((0, 2, 0), (("a", form, (1, 2)), *later), other),
            ((1, 0, 0, 2), (), other),
            ((1, 0, 0, 2), change(1, 2), other),
            ((1, 1, 0), (), later),
        ):
            self.refused(UnfitExpression, {"path": path}, joined, CHAIN, first, second)

    def test_random_changes(self):
        for seed in range(400):
            rng = random.Random(seed)
            schema = random_schema(rng)
            change = random_change(rng, schema, rng.choice((4, 9, 15)), sums=False)
            other = random_change(rng, schema_after(schema, change), rng.choice((4, 9)), sums=False)
            self.check(schema, change, other, *[random_plain(rng, schema) for _ in range(4)])

    def test_three_changes_in_both_ways(self):
        for seed in range(150):
            rng = random.Random(seed)
            schemas, changes = [random_schema(rng)], []
            for _ in range(3):
                changes.append(random_change(rng, schemas[-1], 5, sums=False))
                schemas.append(schema_after(schemas[-1], changes[-1]))
            first, second, third = changes
            left = joined(schemas[0], joined(schemas[0], first, second), third)
            right = joined(schemas[0], first, joined(schemas[1], second, third))
            self.assertTrue(is_change(schemas[0], left) and is_change(schemas[0], right))
            for plain in [random_plain(rng, schemas[0]) for _ in range(3)]:
                after = changed(changed(changed(plain, first), second), third)
                self.exactly([changed(plain, left), changed(plain, right)], [after, after])


if __name__ == "__main__":
    unittest.main()
