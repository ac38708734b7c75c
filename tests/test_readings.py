import random
import unittest

from lateforms.errors import InvalidText
from lateforms.readings import read_expression, read_form, read_kind
from lateforms.texts import expression_text
from tests.samples import Case

SIXTY = "9" * 60


class TestReadExpression(Case):
    """[19], [21]"""

    def wrong(self, index, text, due="number"):
        self.refused(InvalidText, {"row": 0, "field": index}, read_expression, text, due)
        self.refused(InvalidText, {"row": 7, "field": index + 4}, read_expression, text, due, row=7, field=4)

    def right(self, expression, text, due="number"):
        self.exactly(read_expression(text, due), expression)
        self.exactly(read_expression(text, due, row=3, field=9), expression)
        self.exactly(expression_text(expression), text)

    def test_example(self):
        self.exactly(
            [read_expression("if none lid - self", "link"), read_expression("- -3 get to 0", "number")],
            [("if", ("none", ("lid",)), None, ("self",)), ("-", -3, ("get", ("to",), 0))],
        )
        self.refused(InvalidText, {"row": 2, "field": 5}, read_expression, "- 1 get size", "number", row=2, field=1)

    def test_by_name(self):
        self.exactly(read_expression(due="link", text="-", field=1, row=1), None)
        with self.assertRaises(TypeError):
            read_expression("-", "link", 1)

    def test_integers(self):
        for text in ("0", "7", "-7", "10", SIXTY, "-" + SIXTY, "-1" + "0" * 59):
            self.right(int(text), text)
            self.right(("get", ("a",), int(text)), "get a " + text)
        for text in ("00", "01", "-0", "-01", "+1", "--1", "1.0", "1_0", "0x1", "1e3", "9" + SIXTY, "-9" + SIXTY,
                     "0" + SIXTY, "five", "1-", "one", "1,", "\u0661"):
            self.wrong(0, text)
            self.wrong(2, "get a " + text)
            self.wrong(2, f"+ 1 {text} 5")

    def test_words_of_forms_as_names(self):
        self.right(("get", ("get", "to", "if"), 0), "get get.to.if 0")
        self.right(("sum", "sum", "none", "self"), "sum sum none self")
        self.right(("if", ("none", ("none",)), ("to", ("to",)), ("to", ("self", "self"))),
                   "if none none to to to self.self", "link")

    def test_what_is_due(self):
        self.right(("-", 1, 2), "- 1 2")
        self.right(None, "-", "link")
        self.right(("if", ("=", ("-", 1, 2), -1), None, None), "if = - 1 2 -1 - -", "link")
        for word in ("none", "<", "=", "not", "and", "self", "to", "box", "", "sums", "GET", "a.b", "None", "true"):
            self.wrong(0, word)
        for word in ("5", "get", "+", "-", "*", "least", "most", "if", "sum", "self", "to", "box", ""):
            self.wrong(0, word + " 1 2", "condition")
        for word in ("5", "-5", "get", "+", "*", "least", "sum", "<", "none", "not", "box", "", "--"):
            self.wrong(0, word, "link")
        self.wrong(1, "if 5 1 2")
        self.wrong(3, "if none a none b")
        self.wrong(4, "if none a - 5", "link")
        self.wrong(1, "not self", "condition")
        self.wrong(1, "and - -", "condition")
        self.wrong(1, "< self 1", "condition")

    def test_paths_and_names(self):
        for word in ("", ".", "a.", ".a", "a..b", "A", "a.B", "a.b1", "abcdefghi", "a.abcdefghi", "5", "-", "a,b", "a:b"):
            self.wrong(1, f"get {word} 0")
            self.wrong(1, "none " + word, "condition")
            self.wrong(1, "to " + word, "link")
        self.right(("to", ("abcdefgh",) * 5), "to " + ".".join(["abcdefgh"] * 5), "link")
        for word in ("", "a.b", "A", "abcdefghi", "5", "-"):
            self.wrong(1, f"sum {word} a b")
            self.wrong(2, f"sum a {word} b")
            self.wrong(3, f"sum a b {word}")

    def test_empty_words(self):
        for due in ("number", "condition", "link"):
            for text in ("", " ", "  ", " 1", " self", " none a"):
                self.wrong(0, text, due)
        self.wrong(1, "1 ")
        self.wrong(1, "+  1 2")
        self.wrong(2, "+ 1  2")
        self.wrong(3, "+ 1 2 ")
        self.wrong(1, "self ", "link")
        self.wrong(2, "none a ", "condition")

    def test_newlines(self):
        self.wrong(0, "\n")
        self.wrong(0, "1\n")
        self.wrong(0, "\n1")
        self.wrong(0, "1\n2")
        self.wrong(0, "+\n1 2")
        self.wrong(1, "+ 1\n 2")
        self.wrong(1, "1 \n")
        self.wrong(1, "get a\n 0")
        self.wrong(1, "to a\nb", "link")
        self.wrong(1, "sum a\n b c")

    def test_missing_words(self):
        for text, due in (("+", "number"), ("get", "number"), ("if", "link"), ("to", "link"), ("none", "condition")):
            self.wrong(1, text, due)
        for text in ("+ 1", "get a", "sum a", "if none"):
            self.wrong(2, text)
        self.wrong(3, "sum a b")
        self.wrong(5, "if none a get b")
        self.wrong(4, "if none a 1")
        self.wrong(4, "+ + 1 2")

    def test_words_too_many(self):
        self.wrong(1, "1 2")
        self.wrong(3, "+ 1 2 3")
        self.wrong(3, "+ 1 2 + 1 2")
        self.wrong(1, "- -", "link")
        self.wrong(1, "self self", "link")
        self.wrong(3, "get a 0 nonsense\n")

    def test_the_first_wrong_word(self):
        self.wrong(1, "+ x y")
        self.wrong(2, "+ 1 x 3 4")
        self.wrong(1, "get 1 x")

    def test_open_operations(self):
        for word, due, rest in (("+", "number", " 1"), ("least", "number", " 1"), ("not", "condition", ""),
                                ("and", "condition", " none a")):
            leaf = {"number": "get a 0", "condition": "none a"}[due]
            thirty = " ".join([word] * 30 + [leaf]) + rest * 30
            self.assertEqual(expression_text(read_expression(thirty, due)), thirty)
            for many in (31, 32, 1000):
                self.wrong(30, " ".join([word] * many + [leaf]) + rest * many, due)
        self.wrong(30, "not " * 30 + "< 1 2", "condition")
        self.wrong(30, "not " * 29 + "= + 1 2 3", "condition")
        self.wrong(1, "if " * 1000)

    def test_open_operations_at_the_end(self):
        # an operation is open until its last part is complete, so also while this part is read
        thirty = "+ 1 " * 30 + "2"
        self.assertEqual(expression_text(read_expression(thirty, "number")), thirty)
        self.wrong(60, "+ 1 " * 31 + "2")
        self.wrong(60, "+ 1 " * 1000 + "2")
        links = "if none a self " * 30 + "-"
        self.assertEqual(expression_text(read_expression(links, "link")), links)
        self.wrong(120, "if none a self " * 31 + "-", "link")
        # what is complete is open no more
        self.right(("+", ("+", 1, 2), ("+", 3, 4)), "+ + 1 2 + 3 4")
        wide = "+ " * 29 + "+ 1 2" + " + 3 4" * 29
        self.assertEqual(expression_text(read_expression(wide, "number")), wide)
        self.wrong(30, "+ " * 29 + "+ + 1 2 3" + " 4" * 29)

    def test_any_words(self):
        words = ("+", "-", "if", "none", "get", "a.b", "5", "-0", "self", "to", "", "and", "<", "sum", "a")
        for seed in range(3000):
            rng = random.Random(seed)
            text = " ".join(rng.choice(words) for _ in range(rng.randint(1, 7)))
            due = rng.choice(("number", "condition", "link"))
            many = len(text.split(" "))
            try:
                expression = read_expression(text, due)
            except InvalidText as error:
                self.assertIn(error.field, range(many + 1))
                # what stands before the word can be gone on with, and nothing with the word can
                if error.field == many:
                    continue
                for shorter in range(error.field):
                    start = " ".join(text.split(" ")[:shorter + 1])
                    try:
                        read_expression(start, due)
                    except InvalidText as other:
                        self.assertEqual(other.field, shorter + 1)
            else:
                self.assertEqual(expression_text(expression), text)


class TestReadKind(Case):
    """[20]"""

    def wrong(self, read, text):
        self.refused(InvalidText, {"row": 0, "field": 0}, read, text)
        self.refused(InvalidText, {"row": 5, "field": 3}, read, text, row=5, field=3)
        self.refused(InvalidText, {"row": 5, "field": 0}, read, text=text, row=5)

    def test_example(self):
        self.exactly(read_kind("-1..5"), (-1, 5))
        self.refused(InvalidText, {"row": 2, "field": 0}, read_form, "a:0..1,a:b", row=2)

    def test_kinds(self):
        for text, kind in (("0..0", (0, 0)), ("-5..-5", (-5, -5)), ("box", "box"), ("none", "none"),
                           (f"-{SIXTY}..{SIXTY}", (-int(SIXTY), int(SIXTY)))):
            self.exactly(read_kind(text), kind)
            self.exactly(read_kind(text, row=1, field=1), kind)
        for text in ("", " ", "-", "5", "1..0", "0..", "..0", "..", "0.1", "0...1", "0..1..2", "00..1", "0..01", "-0..1",
                     "0..-0", "+1..2", "0..1 ", " 0..1", "0..1\n", "0 ..1", "0..1 2", "box ", "box\n", "box lid", "Box",
                     "abcdefghi", "condition", f"0..9{SIXTY}", f"-9{SIXTY}..0", "a..b", "(0, 1)", "a:0..1"):
            self.wrong(read_kind, text)

    def test_forms(self):
        for text, form in (("-", ()), ("a:0..1", (("a", (0, 1)),)), ("a:b,b:-1..0", (("a", "b"), ("b", (-1, 0)))),
                           ("get:if,to:none", (("get", "if"), ("to", "none")))):
            self.exactly(read_form(text), form)
            self.exactly(read_form(text, row=1, field=1), form)
        for text in ("", " ", "a", "a:", ":a", ":", ",", "a:b,", ",a:b", "a:b,,b:c", "b:a,a:b", "a:b,a:c", "a:1..0",
                     "a:b, b:c", "a:b\n", "a: b", "a:b b:c", "A:b", "a:B", "a:-", "-,a:b", "--", "a:b:c", "a:00..1",
                     f"a:0..9{SIXTY}", "abcdefghi:a", "a:5", "0..1:a"):
            self.wrong(read_form, text)


if __name__ == "__main__":
    unittest.main()
