import unittest

from lateforms.kinds import is_form, is_kind, is_name, is_schema
from tests.samples import ODD, SCHEMA, Case

ALL = (is_name, is_kind, is_form, is_schema)


class TestKinds(Case):
    """[2], [3], [11]"""

    def test_example(self):
        self.exactly(
            [is_kind((3, 2)), is_kind("box"), is_form((("b", (0, 1)), ("a", (0, 1)))), is_schema(SCHEMA), is_schema(())],
            [False, True, False, True, False],
        )

    def test_names(self):
        for name in ("a", "z", "abcdefgh", "self", "to", "none", "gone"):
            self.exactly(is_name(name), True)
        for name in ("", "abcdefghi", "condition", "Box", "a1", "a_", "a b", " a", "a\n", "\u00e9", b"a", ["a"], 1, None, True):
            self.exactly(is_name(name), False)

    def test_ranges(self):
        big = 10 ** 59
        for kind in ((0, 0), (-1, 1), (2, 2), (-big, big), (-5, -3)):
            self.exactly(is_kind(kind), True)
        for kind in ((1, 0), (), (1,), (1, 2, 3), [0, 1], (0, True), (False, 1), (None, 1), ("a", "b"), (0, "b")):
            self.exactly(is_kind(kind), False)

    def test_forms(self):
        for form in ((), (("a", (0, 1)),), (("a", "x"), ("b", "y")), (("if", (1, 1)), ("to", "self"))):
            self.exactly(is_form(form), True)
        for form in (
            [], (("a", (0, 1)), ("a", (0, 1))), (("b", "x"), ("a", "x")), (("a",),), (("a", "x", 1),), (["a", "x"],),
            (("a", (1, 0)),), (("a", None),), (("A", "x"),), (("a", "x"), ("b", [0, 1])), "ab", ("ab",), (1, 2),
            ((["a"], "x"),), (("a", "x"), 5),
        ):
            self.exactly(is_form(form), False)

    def test_schemas(self):
        for schema in ((("a", ()),), (("a", (("l", "a"),)),), (("a", (("l", "b"),)), ("b", ()))):
            self.exactly(is_schema(schema), True)
        for schema in (
            (), [], (("a", (("l", "b"),)),), (("b", ()), ("a", ())), (("a", ()), ("a", ())), (("a",),), ("a", ()),
            (("a", []),), (("A", ()),), (("a", (("l", "a"),)), ("b", (("l", "c"),))), (["a", ()],), (("a", (), ()),),
        ):
            self.exactly(is_schema(schema), False)

    def test_limits_do_not_matter(self):
        form = tuple(("f" + letter, (-10 ** 59, 10 ** 59)) for letter in "abcdefgh")
        self.exactly(is_schema(tuple((letter, form) for letter in "abcdefgh")), True)

    def test_any_value(self):
        for thing in ODD:
            for ask in ALL:
                names = ask in (is_name, is_kind) and thing in ("self", "gone")
                self.exactly(ask(thing), names or ask is is_form and thing == ())

    def test_by_name(self):
        for ask in ALL:
            self.exactly(ask(thing=None), False)


if __name__ == "__main__":
    unittest.main()
