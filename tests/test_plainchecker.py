import random
import unittest

from lateforms.errors import InvalidPaper
from lateforms.plainchecker import is_plain, lets_plain
from tests.randoms import random_plain, random_schema
from tests.samples import ODD, PLAIN, SCHEMA, Case

BIG = 10 ** 59


class TestPlainChecker(Case):
    """[4], [14]"""

    def wrong(self, word, at, thing):
        self.refused(InvalidPaper, {"word": word, "at": at}, lets_plain, thing)
        self.exactly(is_plain(thing), False)

    def objects(self, word, at, *objects, limit=9):
        self.wrong(word, at, (SCHEMA, limit, objects))

    def test_example(self):
        self.exactly(lets_plain(PLAIN), (2, 3))
        self.exactly(lets_plain(thing=PLAIN), (2, 3))
        self.exactly(is_plain(thing=PLAIN), True)
        self.wrong("link", (0, 0), (SCHEMA, 3, ((0, "box", (1, 4)),)))

    def test_right_ones(self):
        self.exactly(lets_plain((SCHEMA, 0, ())), (2, 0))
        self.exactly(lets_plain((SCHEMA, BIG, ())), (2, 0))
        self.exactly(lets_plain(((("a", ()),), 5, ((2, "a", ()), (4, "a", ())))), (1, 2))
        ring = (("a", (("l", "a"),)),)
        self.exactly(lets_plain((ring, 3, ((0, "a", (2,)), (1, "a", (1,)), (2, "a", (0,))))), (1, 3))
        for seed in range(200):
            rng = random.Random(seed)
            plain = random_plain(rng, random_schema(rng))
            self.exactly(lets_plain(plain), (len(plain[0]), len(plain[2])))

    def test_shape(self):
        for thing in ODD:
            self.wrong("shape", -1, thing)
        for thing in (
            (SCHEMA, 3), (SCHEMA, 3, (), ()), [SCHEMA, 3, ()], ((), 0, ()), (SCHEMA, -1, ()), (SCHEMA, True, ()),
            (SCHEMA, None, ()), (SCHEMA, 3, []), (SCHEMA, 3, None), (list(SCHEMA), 3, ()), (SCHEMA[::-1], 3, ()),
            ((("a", (("l", "b"),)),), 0, ()),
        ):
            self.wrong("shape", -1, thing)
        for row in (
            (), (0, "box"), (0, "box", (None, 1), 1), [0, "box", (None, 1)], (-1, "box", (None, 1)),
            (True, "box", (None, 1)), (None, "box", (None, 1)), ("0", "box", (None, 1)), (0, "Box", (None, 1)),
            (0, None, ()), (0, ["box"], ()), (0, "box", [None, 1]), (0, "box", None), "box", 5,
        ):
            self.objects("shape", -1, row)
            self.objects("shape", -1, (8, "bag", (5, 5, 5)), row)

    def test_numbers(self):
        box = ("box", (None, 1))
        self.objects("number", 0, (9, *box))
        self.objects("number", 0, (0, *box), limit=0)
        self.objects("number", 1, (1, *box), (1, *box))
        self.objects("number", 1, (1, *box), (0, *box))
        self.objects("number", 2, (1, *box), (2, *box), (BIG, *box))
        self.objects("number", 1, (0, *box), (3, *box), (3, *box), limit=3)

    def test_classes(self):
        self.objects("class", 0, (0, "bag", ()))
        self.objects("class", 1, (0, "box", (None, 1)), (1, "condit", ()))

    def test_many(self):
        for values in ((), (None,), (None, 1, 2)):
            self.objects("many", 0, (0, "box", values))

    def test_values(self):
        for value in (-1, 10, BIG, True, False, None, "1", (), (1,), [1]):
            self.objects("value", (0, 1), (0, "box", (None, value)))
        for value in (-1, -BIG, True, False, "", "box", (), [0]):
            self.objects("value", (1, 0), (0, "box", (None, 1)), (1, "box", (value, 1)))

    def test_links(self):
        self.objects("link", (0, 0), (0, "box", (0, 1)))
        self.objects("link", (0, 0), (0, "box", (8, 1)))
        self.objects("link", (0, 0), (0, "box", (BIG, 1)))
        self.objects("link", (1, 0), (0, "lid", (None, 1)), (1, "lid", (0, 1)))
        self.objects("link", (1, 0), (0, "box", (2, 1)), (1, "box", (0, 1)), (2, "lid", (0, 1)))

    def test_the_first_error_is_told(self):
        bad = (0, "bag", (True, True, 99))
        self.objects("class", 0, bad, bad)
        self.objects("number", 0, (9, "bag", ()), (9, "box", ()))
        self.objects("many", 0, (0, "box", (8, 99, True)))
        self.objects("value", (0, 0), (0, "box", (True, 99)))
        self.objects("value", (0, 1), (0, "box", (8, 99)), (0, "box", ()))
        self.objects("number", 1, (0, "box", (8, 1)), (0, "bag", ()))
        # a link that leads nowhere comes behind all errors of all objects
        self.objects("value", (1, 1), (0, "box", (8, 1)), (1, "box", (None, 10)))
        self.objects("many", 2, (0, "box", (8, 1)), (1, "lid", (0, 1)), (2, "box", ()))
        self.objects("link", (0, 0), (0, "box", (8, 1)), (1, "box", (1, 1)))

    def test_links_in_the_order_of_their_places(self):
        schema = (("a", (("l", "a"), ("m", "a"))),)
        self.wrong("link", (0, 1), (schema, 5, ((0, "a", (1, 4)), (1, "a", (4, 4)))))
        self.wrong("link", (1, 0), (schema, 5, ((0, "a", (1, 1)), (1, "a", (4, 4)))))


if __name__ == "__main__":
    unittest.main()
