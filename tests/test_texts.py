import random
import unittest

from lateforms.readings import read_expression, read_form, read_kind
from lateforms.texts import expression_text, form_text, kind_text
from tests.randoms import random_expression, random_form, random_schema
from tests.samples import AREA, SCHEMA, Case


class TestTexts(Case):
    """[18], [21]"""

    def test_example(self):
        self.exactly(
            [expression_text(AREA), form_text(SCHEMA[0][1]), form_text(())],
            ["* get size 0 get lid.w 1", "lid:lid,size:0..9", "-"],
        )

    def test_by_name(self):
        self.exactly([expression_text(expression=1), kind_text(kind="a"), form_text(form=())], ["1", "a", "-"])

    def test_numbers(self):
        one, two = ("get", ("a", "to", "get"), -5), ("sum", "if", "to", "none")
        for number, text in (
            (0, "0"), (-12, "-12"), (10 ** 60, "1" + "0" * 60), (one, "get a.to.get -5"), (two, "sum if to none"),
            (("+", one, two), "+ get a.to.get -5 sum if to none"), (("-", 0, -1), "- 0 -1"), (("*", 1, 2), "* 1 2"),
            (("least", 1, 2), "least 1 2"), (("most", ("most", 1, 2), 3), "most most 1 2 3"),
            (("if", ("none", ("a",)), 1, ("-", 2, 3)), "if none a 1 - 2 3"),
        ):
            self.exactly(expression_text(number), text)

    def test_conditions_and_links(self):
        for thing, text in (
            (("<", ("sum", "box", "lid", "size"), 3), "< sum box lid size 3"), (("=", 1, -1), "= 1 -1"),
            (("none", ("self",)), "none self"), (("not", ("none", ("a", "b"))), "not none a.b"),
            (("and", ("=", 1, 2), ("not", ("=", 3, 4))), "and = 1 2 not = 3 4"),
            (None, "-"), (("self",), "self"), (("to", ("self",)), "to self"), (("to", ("a", "b", "c")), "to a.b.c"),
            (("if", ("none", ("lid",)), None, ("self",)), "if none lid - self"),
        ):
            self.exactly(expression_text(thing), text)

    def test_kinds_and_forms(self):
        for kind, text in (((0, 9), "0..9"), ((-5, -1), "-5..-1"), ((-3, 10 ** 30), "-3.." + "1" + "0" * 30), ("box", "box")):
            self.exactly(kind_text(kind), text)
        self.exactly(form_text((("a", (-1, 1)),)), "a:-1..1")
        self.exactly(form_text((("a", "b"), ("if", (0, 0)), ("to", "self"))), "a:b,if:0..0,to:self")

    def test_there_and_back(self):
        for seed in range(300):
            rng = random.Random(seed)
            schema = random_schema(rng)
            cls = rng.choice(schema)[0]
            for kind, due in (((0, 9), "number"), ("condition", "condition"), (cls, "link")):
                expression = random_expression(rng, schema, cls, kind)
                text = expression_text(expression)
                self.exactly(read_expression(text, due), expression)
                self.exactly(expression_text(read_expression(text, due)), text)
            form = random_form(rng, ["a", "b"])
            self.exactly(read_form(form_text(form)), form)
            for _, kind in form:
                self.exactly(read_kind(kind_text(kind)), kind)


if __name__ == "__main__":
    unittest.main()
