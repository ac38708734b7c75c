import random
import unittest

from lateforms.terms import Condition, Term
from lateforms.texts import expression_text
from tests.randoms import random_expression, random_schema
from tests.samples import ODD, Case

N, M = ("get", ("size",), 0), ("sum", "box", "lid", "size")
C, D = ("none", ("lid",)), ("=", 1, 2)


class TestTerm(Case):
    """[17]"""

    def made(self, term, expression, shape=Term):
        self.assertIs(term.__class__, shape)
        self.exactly(term.expression, expression)
        self.exactly(str(term), expression_text(expression))

    def test_example(self):
        size = Term.by_path("size")
        self.exactly(
            [str((size + 1) * 2), (3 - size).least(5).expression, str(size.chosen(size.less(4).inverted(), -7))],
            ["* + get size 0 1 2", ("least", ("-", 3, ("get", ("size",), 0)), 5),
             "if not < get size 0 4 get size 0 -7"],
        )
        self.exactly(
            [str(Condition.none("lid", "of").both(size.equals(9))), (-size).expression, Term(4) == 4, Term(4) == Term(4)],
            ["and none lid.of = get size 0 9", ("-", 0, ("get", ("size",), 0)), False, True],
        )

    def test_made(self):
        self.made(Term(5), 5)
        self.made(Term(N), N)
        self.made(Term(Term(N)), N)
        self.made(Term(expression=Term(M)), M)
        self.made(Condition(C), C, Condition)
        self.made(Condition(expression=Condition(C)), C, Condition)

    def test_static_methods(self):
        self.made(Term.by_path("a"), ("get", ("a",), 0))
        self.made(Term.by_path("a", "b", default=-3), ("get", ("a", "b"), -3))
        self.made(Term.total("box", "lid", "size"), M)
        self.made(Term.total(field="size", link="lid", cls="box"), M)
        self.made(Condition.none("a"), ("none", ("a",)), Condition)
        self.made(Condition.none("a", "b"), ("none", ("a", "b")), Condition)
        self.made(Term(5).by_path("a"), ("get", ("a",), 0))
        with self.assertRaises(TypeError):
            Term.by_path("a", defaults=1)

    def test_operators(self):
        term = Term(N)
        for right, bare in ((Term(M), M), (7, 7), (-7, -7), (M, M)):
            self.made(term + right, ("+", N, bare))
            self.made(term - right, ("-", N, bare))
            self.made(term * right, ("*", N, bare))
        for left in (0, 7, -10 ** 30):
            self.made(left + term, ("+", left, N))
            self.made(left - term, ("-", left, N))
            self.made(left * term, ("*", left, N))
        self.made(-term, ("-", 0, N))
        self.made(-(-Term(1)), ("-", 0, ("-", 0, 1)))
        self.made(1 + term - 2 * term, ("-", ("+", 1, N), ("*", 2, N)))
        with self.assertRaises(TypeError):
            term / 2

    def test_least_and_most(self):
        term = Term(N)
        for word, call in (("least", term.least), ("most", term.most)):
            self.made(call(), N)
            self.assertTrue(call() == term)
            for other, bare in ((Term(M), M), (7, 7), (M, M)):
                self.made(call(other), (word, N, bare))
            self.made(call(1, Term(M), M), (word, (word, (word, N, 1), M), M))

    def test_conditions_of_terms(self):
        for other, bare in ((Term(M), M), (7, 7), (M, M)):
            self.made(Term(N).less(other), ("<", N, bare), Condition)
            self.made(Term(N).equals(other=other), ("=", N, bare), Condition)
            for condition in (Condition(C), C):
                self.made(Term(N).chosen(condition, other), ("if", C, N, bare))
                self.made(Term(N).chosen(other=other, condition=condition), ("if", C, N, bare))

    def test_both_and_inverted(self):
        condition = Condition(C)
        self.made(condition.both(), C, Condition)
        self.assertTrue(condition.both() == condition)
        for other in (Condition(D), D):
            self.made(condition.both(other), ("and", C, D), Condition)
        self.made(condition.both(D, Condition(C), D), ("and", ("and", ("and", C, D), C), D), Condition)
        self.made(condition.inverted(), ("not", C), Condition)
        self.made(condition.inverted().inverted(), ("not", ("not", C)), Condition)

    def test_equality(self):
        for one, other, equal in (
            (Term(4), Term(4), True), (Term(4), Term(5), False), (Term(N), Term(N), True), (Term(N), Term(M), False),
            (Term(1) + 2, Term(("+", 1, 2)), True), (Term(1) + 2, 2 + Term(1), False),
            (Condition(C), Condition(C), True), (Condition(C), Condition(D), False),
            (Term(4).equals(4), Condition(("=", 4, 4)), True),
            (Term(4), Condition(C), False), (Condition(D), Term(4), False), (Condition(C), Term(N), False),
            (Term(1), Term(True), False), (Term(("+", 0, 1)), Term(("+", False, 1)), False),
            (Term(("get", ("a",), 0)), Term(("get", ["a"], 0)), False),
        ):
            self.exactly([one == other, one != other, other == one, other != one], [equal, not equal] * 2)
        for thing in [*ODD, None, 4, N, C, "get size 0", str(Term(N)), [Term(4)], (Term(4),)]:
            for one in (Term(4), Term(N), Condition(C)):
                self.exactly([one == thing, one != thing, thing == one, thing != one], [False, True] * 2)

    def test_they_never_change(self):
        term, condition = Term(N), Condition(C)
        for thing in (term, condition):
            with self.assertRaises(AttributeError):
                thing.expression = 5
        other = term
        other += 1
        other *= 2
        [term + 1, 1 - term, -term, term.least(1), term.less(2), term.chosen(C, 1), condition.both(D), condition.inverted()]
        self.made(term, N)
        self.made(condition, C, Condition)
        self.made(other, ("*", ("+", N, 1), 2))

    def test_without_others_it_is_equal(self):
        for seed in range(100):
            rng = random.Random(seed)
            schema = random_schema(rng)
            cls = schema[0][0]
            number = random_expression(rng, schema, cls, (0, 1))
            condition = random_expression(rng, schema, cls, "condition")
            self.made(Term(number).least().most(), number)
            self.made(Condition(condition).both(), condition, Condition)
            self.assertTrue(Term(number) == Term(number).least() and Condition(condition) == Condition(condition).both())

    def test_deep(self):
        term = Term(N)
        for _ in range(400):
            term = 1 - term
        self.assertTrue(term == Term(term))
        self.assertEqual(str(term), "- 1 " * 400 + "get size 0")


if __name__ == "__main__":
    unittest.main()
