import random
import unittest

from lateforms.changereads import read_fields, unread_fields
from lateforms.reading import objects_of, reads_of
from tests.randoms import random_change, random_plain, random_schema
from tests.samples import GROW, SCHEMA, Case


class TestChangeReads(Case):
    """[33]"""

    def reads(self, expression, kind=(0, 9), cls="box"):
        return read_fields(SCHEMA, ((cls, (("a", kind),), (expression,)),))

    def test_example(self):
        self.exactly(
            [read_fields(SCHEMA, GROW), unread_fields(SCHEMA, GROW), unread_fields(SCHEMA, (("lid", (), ()),))],
            [(("box", "lid"), ("box", "size"), ("lid", "w")), (), (("lid", "of"), ("lid", "w"))],
        )

    def test_by_name(self):
        self.exactly(read_fields(change=GROW, schema=SCHEMA), read_fields(SCHEMA, GROW))
        self.exactly(unread_fields(change=GROW, schema=SCHEMA), ())

    def test_nothing(self):
        for change in ((), (("bag", (("b", "box"),), None),)):
            self.exactly([read_fields(SCHEMA, change), unread_fields(SCHEMA, change)], [(), ()])
        for expression in (5, ("+", 1, 2), ("if", ("=", 1, 2), 3, 4)):
            self.exactly(self.reads(expression), ())
        for expression in (None, ("self",)):
            self.exactly(self.reads(expression, "box"), ())

    def test_paths(self):
        self.exactly(self.reads(("get", ("size",), 0)), (("box", "size"),))
        self.exactly(self.reads(("get", ("lid", "of", "size"), 0)), (("box", "lid"), ("box", "size"), ("lid", "of")))
        self.exactly(self.reads(("to", ("lid", "of")), "box"), (("box", "lid"), ("lid", "of")))
        self.exactly(self.reads(("to", ("lid", "of", "lid")), "lid"), (("box", "lid"), ("lid", "of")))

    def test_conditions_and_sums(self):
        self.exactly(self.reads(("if", ("none", ("lid", "of")), 1, 2)), (("box", "lid"), ("lid", "of")))
        self.exactly(self.reads(("if", ("not", ("<", ("get", ("size",), 0), 1)), None, ("self",)), "box"), (("box", "size"),))
        self.exactly(self.reads(("sum", "box", "lid", "size"), cls="lid"), (("box", "lid"), ("box", "size")))
        self.exactly(self.reads(("if", ("=", ("sum", "lid", "of", "w"), 1), 1, 2)), (("lid", "of"), ("lid", "w")))

    def test_whether_or_not_it_can_be_read(self):
        never = ("if", ("<", 1, 0), ("get", ("lid", "w"), 0), 5)
        self.exactly(self.reads(never), (("box", "lid"), ("lid", "w")))
        self.exactly(self.reads(("if", ("and", ("<", 1, 0), ("none", ("lid",))), 1, 2)), (("box", "lid"),))

    def test_unread(self):
        size = ("box", (("size", (0, 9)),), (("get", ("size",), 0),))
        self.exactly(unread_fields(SCHEMA, (size,)), (("box", "lid"),))
        self.exactly(unread_fields(SCHEMA, (size, ("lid", (("n", (0, 9)),), (("get", ("of", "size"), 0),)))),
                     (("box", "lid"), ("lid", "w")))
        # only fields of classes that are converted, and only if no class reads them
        self.exactly(unread_fields(SCHEMA, (("bag", (), None), ("box", (), ()), ("lid", (), ()))),
                     (("box", "lid"), ("box", "size"), ("lid", "of"), ("lid", "w")))
        self.exactly(unread_fields(SCHEMA, (("box", (), ()),
                                            ("lid", (("n", (0, 9)),), (("sum", "box", "lid", "size"),)))),
                     (("lid", "of"), ("lid", "w")))

    def test_what_is_read_is_a_read_field(self):
        for seed in range(200):
            rng = random.Random(seed)
            schema = random_schema(rng)
            change = random_change(rng, schema)
            plain = random_plain(rng, schema)
            classes = dict(row[:2] for row in plain[2])
            fields = read_fields(schema, change)
            self.assertEqual(list(fields), sorted(set(fields)))
            for cls, _, expressions in change:
                for expression in expressions or ():
                    for own in objects_of(plain, cls):
                        for number, field in reads_of(plain, own, expression):
                            self.assertIn((classes[number], field), fields)
            unread = [(cls, field) for cls, form in schema for field, _ in form
                      if cls in [row[0] for row in change] and (cls, field) not in fields]
            self.exactly(unread_fields(schema, change), tuple(unread))


if __name__ == "__main__":
    unittest.main()
