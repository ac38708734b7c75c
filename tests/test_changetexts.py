import random
import unittest

from lateforms.changereadings import read_change
from lateforms.changes import is_change
from lateforms.changetexts import change_text
from lateforms.errors import InvalidText
from lateforms.joining import joined
from tests.randoms import random_change, random_schema
from tests.samples import GROW, SCHEMA, THIN, Case

SIXTY = "9" * 60
ODD_NAMES = (
    ("convert", (("convert", "new"), ("new", (0, 1))), (None, ("sum", "new", "convert", "new"))),
    ("new", (("convert", (0, 1)), ("new", "convert")), None),
)


class TestChangeText(Case):
    """[34]"""

    def wrong(self, index, text):
        self.refused(InvalidText, {"row": 0, "field": index}, read_change, text)
        self.refused(InvalidText, {"row": 6, "field": index + 3}, read_change, text, row=6, field=3)
        self.refused(InvalidText, {"row": 6, "field": index}, read_change, text=text, row=6)

    def right(self, change, text):
        self.exactly(change_text(change), text)
        self.exactly(read_change(text), change)
        self.exactly(read_change(field=8, text=text, row=1), change)
        self.exactly(change_text(change=change), text)

    def test_example(self):
        self.exactly(
            [change_text(GROW), read_change("new tag k:0..3"), read_change("-")],
            ["convert box area:0..50 * get size 0 get lid.w 1 lid:lid to lid", (("tag", (("k", (0, 3)),), None),), ()],
        )
        self.wrong(5, "convert box size:0..9 get size")
        self.refused(InvalidText, {"row": 2, "field": 4}, read_change, "new tag k:0..3  new z", row=2, field=1)
        with self.assertRaises(TypeError):
            read_change("-", 1)

    def test_there_and_back(self):
        self.right((), "-")
        self.right((("a", (), None),), "new a")
        self.right((("a", (), ()),), "convert a")
        self.right((("a", (), ()), ("b", (), None), ("c", (), ())), "convert a new b convert c")
        self.right((("a", (("k", "b"), ("n", (-3, 5))), None), ("b", (), None)), "new a k:b n:-3..5 new b")
        self.right((("a", (("k", "b"), ("n", (-3, 5))), (None, -5)), ("b", (("x", (0, 0)),), (("-", 1, -2),))),
                   "convert a k:b - n:-3..5 -5 convert b x:0..0 - 1 -2")
        self.right(ODD_NAMES, "convert convert convert:new - new:0..1 sum new convert new new new convert:0..1 new:convert")
        long = (-int(SIXTY), int(SIXTY))
        self.right((("a", (("k", long),), (long[0],)),), f"convert a k:-{SIXTY}..{SIXTY} -{SIXTY}")

    def test_random_changes(self):
        for seed in range(400):
            rng = random.Random(seed)
            schema = random_schema(rng)
            change = random_change(rng, schema)
            self.right(change, change_text(change))

    def test_returned_changes(self):
        change = joined(SCHEMA, GROW, THIN)
        self.right(change, change_text(change))

    def test_the_beginning(self):
        for text in ("", " ", "  ", "-1", "--", "a", "box", "convert\n", "\nconvert a", "New a", "news a", "a:0..1", "0",
                     " new a", " -", "new:a", "-\n", "drop a"):
            self.wrong(0, text)
        for text in ("- -", "- ", "-  ", "- new a", "- convert a", "- \n", "- 5"):
            self.wrong(1, text)

    def test_classes(self):
        for start in ("new", "convert"):
            self.wrong(1, start)
            for word in ("", "A", "a1", "abcdefghi", "a:0..1", "a\n", "-", "5", "a.b"):
                self.wrong(1, f"{start} {word} k:0..1 0")
            for word in ("a", "b", "", "B", "b:0..1"):
                self.wrong(3, f"new b {start} {word}")
                self.wrong(5, f"convert b k:0..1 5 {start} {word}")
            self.wrong(3, "new b " + start)
        self.right((("ab", (), None), ("b", (), ())), "new ab convert b")

    def test_fields(self):
        for word in ("", "k", "k:", ":k", "k:1..0", "k:0", "k:0..1:2", "K:0..1", "k:0..1\n", "\nk:0..1", "-", "5", "k:-",
                     f"k:0..9{SIXTY}", "k:00..1", "k:0..-0", "a", "box", "convert:", "new:", "abcdefghi:a", "k:abcdefghi"):
            self.wrong(2, "new b " + word)
            self.wrong(2, "convert b " + word)
            self.wrong(2, f"convert b {word} 0")
            self.wrong(3, f"new b a:0..1 {word}")
            self.wrong(4, f"convert b a:0..1 0 {word}")
        for word in ("k:0..1", "j:0..1", "a:b"):
            self.wrong(3, "new b k:0..1 " + word)
            self.wrong(4, f"convert b k:0..1 0 {word} 0")
        # the names of another row's fields mean nothing
        self.right((("a", (("k", (0, 1)),), None), ("b", (("a", (0, 1)),), None)), "new a k:0..1 new b a:0..1")
        self.wrong(3, "new b a:0..1 a:0..1")

    def test_expressions(self):
        self.wrong(3, "convert b k:0..1")
        for word in ("", "self", "none", "x", "new", "convert", "00", "-0", "1\n", "9" + SIXTY, "l:0..1", "1.0"):
            self.wrong(3, "convert b k:0..1 " + word)
        for word in ("", "5", "get", "x", "new", "none", "l:0..1"):
            self.wrong(3, "convert b k:c " + word)
        self.wrong(4, "convert b k:0..1 -")
        self.wrong(4, "convert b k:c - -")
        self.wrong(4, "convert b k:c to")
        self.wrong(4, "convert b k:0..1 5 5")
        self.wrong(5, "convert b k:0..1 get new")
        self.wrong(5, "convert b k:0..1 get new x")
        self.wrong(4, "convert b k:0..1 get x: 0")
        self.wrong(6, "convert b k:0..1 get new 0 5")
        self.wrong(3, "new b k:0..1 5")
        self.wrong(3, "new b k:c -")

    def test_words_too_many(self):
        self.wrong(2, "new b ")
        self.wrong(2, "new b  k:0..1")
        self.wrong(3, "new b k:0..1 ")
        self.wrong(4, "convert b k:0..1 5 ")
        self.wrong(4, "convert b k:0..1 5  new c")
        self.wrong(4, "convert b k:0..1 5 \n")
        self.wrong(4, "convert b k:0..1 5 l")

    def test_open_operations(self):
        thirty = "+ " * 30 + "1" + " 1" * 30
        self.assertEqual(change_text(read_change("convert b k:0..1 " + thirty)), "convert b k:0..1 " + thirty)
        two = f"convert b k:0..1 {thirty} l:0..1 {thirty} convert c k:0..1 {thirty}"
        self.assertEqual(change_text(read_change(two)), two)
        self.wrong(33, "convert b k:0..1 + " + thirty + " 1")
        self.wrong(33, "convert b k:0..1 " + "+ " * 1000)
        self.wrong(64 + 31, f"convert b k:0..1 {thirty} l:0..1 + {thirty} 1")
        self.wrong(35, "convert a k:0..1 5 l:0..1 " + "- " * 29 + "least " * 2)

    def test_whether_it_fits_is_not_checked(self):
        change = (("zebra", (("k", "nowhere"),), (("to", ("x", "y")),)),)
        self.assertFalse(is_change(SCHEMA, change))
        self.right(change, "convert zebra k:nowhere to x.y")


if __name__ == "__main__":
    unittest.main()
