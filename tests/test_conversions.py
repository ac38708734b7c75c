import random
import unittest

from lateforms.changes import lets_change
from lateforms.conversions import Kept, Renamed, RenamedWith, With, Without, change_of
from tests.randoms import random_schema
from tests.samples import ODD, SCHEMA, Case

BOX = SCHEMA[0][1]
LID, SIZE = ("lid", ("to", ("lid",))), ((0, 9), ("get", ("size",), 0))


class TestConversions(Case):
    """[27], [28]"""

    def has(self, conversion, entries):
        self.assertEqual(sorted(conversion.entries()), sorted(entries))
        for field in entries:
            self.exactly(conversion.entries()[field], entries[field])
        form = tuple((field, entries[field][0]) for field in sorted(entries))
        expressions = tuple(entries[field][1] for field in sorted(entries))
        self.exactly(conversion.form, form)
        self.exactly(conversion.expressions, expressions)
        self.exactly(conversion.row_of("box"), ("box", form, expressions))
        self.exactly(conversion.row_of(cls="bag"), ("bag", form, expressions))

    def test_example(self):
        self.exactly(
            RenamedWith(BOX, old="size", new="length", field="tag", kind=(0, 3), expression=1).row_of("box"),
            ("box", (("length", (0, 9)), ("lid", "lid"), ("tag", (0, 3))), (("get", ("size",), 0), ("to", ("lid",)), 1)),
        )
        self.exactly(
            change_of(tag=(("k", (0, 3)),), box=Without(BOX, field="lid")),
            (("box", (("size", (0, 9)),), (("get", ("size",), 0),)), ("tag", (("k", (0, 3)),), None)),
        )

    def test_kept(self):
        self.has(Kept(BOX), {"lid": LID, "size": SIZE})
        self.has(Kept(form=()), {})

    def test_renamed(self):
        self.has(Renamed(BOX, old="size", new="a"), {"lid": LID, "a": SIZE})
        self.has(Renamed(BOX, old="lid", new="z"), {"z": LID, "size": SIZE})
        # in place of the one that new has
        self.has(Renamed(BOX, old="size", new="lid"), {"lid": SIZE})
        self.has(Renamed(BOX, old="lid", new="size"), {"size": LID})
        for old, new in (("size", "size"), ("w", "size"), ("w", "z"), ("w", "w")):
            self.has(Renamed(BOX, old=old, new=new), {"lid": LID, "size": SIZE})
        for old in (None, 5, True, [], ["size"], ("size",)):
            self.has(Renamed(BOX, old=old, new="size"), {"lid": LID, "size": SIZE})
        self.has(Renamed((), old="a", new="b"), {})

    def test_without(self):
        self.has(Without(BOX, field="size"), {"lid": LID})
        self.has(Without(field="lid", form=BOX), {"size": SIZE})
        for field in ("w", None, 5, True, [], ["size"]):
            self.has(Without(BOX, field=field), {"lid": LID, "size": SIZE})

    def test_with(self):
        self.has(With(BOX, field="a", kind=(0, 1), expression=1), {"lid": LID, "size": SIZE, "a": ((0, 1), 1)})
        self.has(With(BOX, field="size", kind="box", expression=None), {"lid": LID, "size": ("box", None)})
        self.has(With((), field="a", kind="b", expression=("self",)), {"a": ("b", ("self",))})
        for thing in ODD:
            conversion = With(BOX, field="a", kind=thing, expression=thing)
            self.assertIs(conversion.entries()["a"][0], thing)
            self.assertIs(conversion.entries()["a"][1], thing)
            self.assertIs(conversion.expressions[0], thing)

    def test_renamed_with(self):
        def both(old, new, field):
            return RenamedWith(BOX, old=old, new=new, field=field, kind=(0, 1), expression=5)

        one = ((0, 1), 5)
        self.has(both("size", "a", "b"), {"lid": LID, "a": SIZE, "b": one})
        # the field is given first, then the entry of old gets the name new
        self.has(both("b", "c", "b"), {"lid": LID, "size": SIZE, "c": one})
        self.has(both("size", "c", "size"), {"lid": LID, "c": one})
        self.has(both("size", "b", "b"), {"lid": LID, "b": SIZE})
        self.has(both("b", "lid", "b"), {"lid": one, "size": SIZE})
        self.has(both("w", "a", "b"), {"lid": LID, "size": SIZE, "b": one})
        self.has(both("b", "b", "b"), {"lid": LID, "size": SIZE, "b": one})

    def test_classes(self):
        for shape in (Renamed, Without, With):
            self.assertEqual(shape.__bases__, (Kept,))
        self.assertEqual(RenamedWith.__bases__, (Renamed, With))

    def test_arguments_by_name_only(self):
        for call in (lambda: Renamed(BOX, "a", "b"), lambda: Without(BOX, "a"), lambda: With(BOX, "a", (0, 1), 1)):
            with self.assertRaises(TypeError):
                call()

    def test_entries_are_new(self):
        for conversion in (Kept(BOX), Renamed(BOX, old="size", new="a"), Without(BOX, field="a"),
                           With(BOX, field="a", kind=(0, 1), expression=1),
                           RenamedWith(BOX, old="size", new="b", field="a", kind=(0, 1), expression=1)):
            before = conversion.row_of("box")
            self.assertIs(conversion.entries().__class__, dict)
            conversion.entries().clear()
            conversion.entries()["zoo"] = 5
            self.exactly(conversion.row_of("box"), before)
            for name in ("form", "expressions"):
                with self.assertRaises(AttributeError):
                    setattr(conversion, name, ())

    def test_equality(self):
        a = dict(field="a", kind=(0, 1))
        equal = (
            (Kept(BOX), Kept(BOX)), (Kept(BOX), Renamed(BOX, old="w", new="z")), (Kept(BOX), Without(BOX, field="w")),
            (With(BOX, expression=1, **a), With(BOX, expression=1, **a)),
            (With(BOX, expression=1, **a), RenamedWith(BOX, old="w", new="z", expression=1, **a)),
            (Renamed(BOX, old="size", new="z"), Renamed(BOX, old="size", new="z")),
            (Without(BOX, field="lid"), With((), field="size", kind=(0, 9), expression=("get", ("size",), 0))),
            (Kept(()), Without((("a", "b"),), field="a")),
            (Kept(BOX), Kept(list(BOX))),
            (With(BOX, expression=[1, [(None,)]], **a), With(BOX, expression=[1, [(None,)]], **a)),
        )
        different = (
            (Kept(BOX), Kept(SCHEMA[1][1])), (Kept(BOX), Without(BOX, field="size")),
            (With(BOX, expression=1, **a), With(BOX, expression=True, **a)),
            (With(BOX, expression=("+", 0, 1), **a), With(BOX, expression=("+", False, 1), **a)),
            (With(BOX, expression=("+", 0, 1), **a), With(BOX, expression=["+", 0, 1], **a)),
            (With(BOX, expression=1, **a), With(BOX, expression=2, **a)),
            (With(BOX, expression=1, **a), With(BOX, field="a", kind=(0, 2), expression=1)),
            (With(BOX, expression=1, **a), With(BOX, field="a", kind=(False, True), expression=1)),
            (With(BOX, expression=1, **a), With(BOX, field="b", kind=(0, 1), expression=1)),
            (Renamed(BOX, old="size", new="z"), Kept(BOX)),
            (With(BOX, expression=[1, [2]], **a), With(BOX, expression=[1, [2], 3], **a)),
            (With(BOX, expression=[1, [2, 3]], **a), With(BOX, expression=[1, [2]], **a)),
            (With(BOX, expression=[1], **a), With(BOX, expression=[True], **a)),
            (With(BOX, expression=[1], **a), With(BOX, expression=(1,), **a)),
            (With(BOX, expression=(1, 2), **a), With(BOX, expression=(1,), **a)),
            (With(BOX, expression="1", **a), With(BOX, expression=1, **a)),
            (With(BOX, expression=None, **a), With(BOX, expression=False, **a)),
        )
        for pairs, expected in ((equal, True), (different, False)):
            for one, other in pairs:
                self.exactly([one == other, other == one, one != other], [expected, expected, not expected])
        for thing in [*ODD, None, BOX, Kept(BOX).entries(), Kept(BOX).row_of("box"), Kept, [Kept(BOX)]]:
            self.exactly([Kept(BOX) == thing, thing == Kept(BOX), Kept(BOX) != thing], [False, False, True])


class TestChangeOf(Case):
    """[29]"""

    def test_change_of(self):
        self.exactly(change_of(), ())
        self.exactly(change_of(z=(), a=Kept(()), b=()), (("a", (), ()), ("b", (), None), ("z", (), None)))
        self.exactly(change_of(rows=(), self=(), cls=()), (("cls", (), None), ("rows", (), None), ("self", (), None)))
        self.exactly(change_of(a=((5,),)), (("a", ((5,),), None),))
        for shape in (
            Kept(BOX), Renamed(BOX, old="size", new="a"), Without(BOX, field="size"),
            With(BOX, field="a", kind=(0, 1), expression=1),
            RenamedWith(BOX, old="size", new="b", field="a", kind=(0, 1), expression=1),
        ):
            self.exactly(change_of(box=shape, bag=()), (("bag", (), None), shape.row_of("box")))
            self.exactly(lets_change(SCHEMA, change_of(box=shape, bag=())), 1)

    def test_kept_is_a_change(self):
        for seed in range(100):
            schema = random_schema(random.Random(seed))
            change = change_of(**{cls: Kept(form) for cls, form in schema})
            self.exactly(lets_change(schema, change), len(schema))


if __name__ == "__main__":
    unittest.main()
