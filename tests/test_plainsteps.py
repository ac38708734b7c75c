import random
import unittest

from lateforms.errors import InvalidPaper, InvalidStep, LateError, UnknownObject
from lateforms.plainchecker import is_plain
from lateforms.plainsteps import dropped, made, plain_step, written
from tests.randoms import random_change, random_plain, random_schema
from tests.samples import GROW, ODD, PLAIN, SCHEMA, Case

BIG = 10 ** 59
LOOP = ((("a", (("l", "a"), ("x", (0, 9)))),), 6, ((2, "a", (2, 1)), (3, "a", (2, 1)), (5, "a", (None, 2))))


class TestSteps(Case):
    """[25], [26]"""

    def barred(self, word, step):
        call = {"make": lambda: made(PLAIN, step[1], *step[2]), "write": lambda: written(PLAIN, *step[1:])}[step[0]]
        self.refused(InvalidStep, {"step": step, "word": word}, call)
        with self.assertRaises(InvalidStep) as caught:
            plain_step(PLAIN, step)
        self.assertIs(caught.exception.step, step)
        self.exactly(caught.exception.word, word)

    def test_example(self):
        self.exactly(
            [made(PLAIN, "lid", 2, 3)[1], made(PLAIN, "lid", 2, 3)[2][3], dropped(PLAIN, 1)[2]],
            [4, (3, "lid", (2, 3)), ((0, "box", (None, 4)), (2, "box", (None, 9)))],
        )
        self.barred("value", ("write", 0, "size", 10))

    def test_made(self):
        self.exactly(made(PLAIN, "box", None, 0), (SCHEMA, 4, (*PLAIN[2], (3, "box", (None, 0)))))
        self.exactly(made(plain=((("a", ()),), 0, ()), cls="a"), ((("a", ()),), 1, ((0, "a", ()),)))
        self.exactly(made(LOOP, "a", 3, 9)[2][3], (6, "a", (3, 9)))
        self.exactly(made((SCHEMA, BIG, ()), "box", None, 1), (SCHEMA, BIG + 1, ((BIG, "box", (None, 1)),)))

    def test_made_wrongly(self):
        for cls in [*ODD, "bag", "size", 0, None]:
            self.barred("class", ("make", cls, (None, 1)))
            self.barred("class", ("make", cls, ()))
        for values in ((), (None,), (None, 1, 1), (None, 10), (None, -1), (None, True), (None, None), (None, "1"),
                       (None, (1,)), (None, [1]), (True, 1), (False, 1), (0, 1), (2, 1), (3, 1), (-1, 1), (BIG, 1),
                       ([1], 1), ("lid", 1), ((1,), 1)):
            self.barred("values", ("make", "box", values))

    def test_no_link_to_the_new_object(self):
        self.refused(InvalidStep, {"step": ("make", "a", (6, 1)), "word": "values"}, made, LOOP, "a", 6, 1)

    def test_written(self):
        self.exactly(written(PLAIN, 0, "size", 0), (SCHEMA, 3, ((0, "box", (1, 0)), *PLAIN[2][1:])))
        self.exactly(written(PLAIN, 2, "lid", 1)[2][2], (2, "box", (1, 9)))
        self.exactly(written(value=None, field="of", number=1, plain=PLAIN)[2][1], (1, "lid", (None, 5)))
        # a link may lead to the object itself
        self.exactly(written(LOOP, 5, "l", 5)[2][2], (5, "a", (5, 2)))

    def test_written_wrongly(self):
        for field in [*ODD, "w", "box", 0, None]:
            self.barred("field", ("write", 0, field, 5))
        for value in (-1, 10, BIG, True, None, "5", (5,), [5]):
            self.barred("value", ("write", 0, "size", value))
        for value in (0, 2, 3, -1, BIG, True, False, "lid", (1,), [1]):
            self.barred("value", ("write", 0, "lid", value))
        self.barred("field", ("write", 0, "w", 99))

    def test_dropped(self):
        self.exactly(dropped(PLAIN, 0), (SCHEMA, 3, ((1, "lid", (None, 5)), (2, "box", (None, 9)))))
        # numbers that are equal to the object's number stay; links of its own go with it
        self.exactly(dropped(plain=LOOP, number=2), (LOOP[0], 6, ((3, "a", (None, 1)), (5, "a", (None, 2)))))

    def test_other_links_stay(self):
        self.exactly(dropped(PLAIN, 2), (SCHEMA, 3, PLAIN[2][:2]))
        plain = (LOOP[0], 6, ((0, "a", (3, 3)), (3, "a", (5, 5)), (5, "a", (0, 3))))
        self.exactly(dropped(plain, 3)[2], ((0, "a", (None, 3)), (5, "a", (0, 3))))

    def test_a_number_is_not_used_again(self):
        plain = made(dropped(PLAIN, 2), "box", None, 7)
        self.exactly([plain[1], plain[2][-1]], [4, (3, "box", (None, 7))])
        self.refused(UnknownObject, {"number": 2}, dropped, plain, 2)

    def test_unknown_objects(self):
        for number in [*ODD, 3, None, (0,), "0", [0]]:
            for call in (
                lambda n: written(PLAIN, n, "nonsense", True), lambda n: dropped(PLAIN, n),
                lambda n: plain_step(PLAIN, ("write", n, "size", 5)), lambda n: plain_step(PLAIN, ("drop", n)),
            ):
                with self.assertRaises(UnknownObject) as caught:
                    call(number)
                self.assertIs(caught.exception.number, number)

    def test_plain_step(self):
        self.exactly(plain_step(PLAIN, ("make", "lid", (2, 3))), made(PLAIN, "lid", 2, 3))
        self.exactly(plain_step(step=("write", 0, "size", 1), plain=PLAIN), written(PLAIN, 0, "size", 1))
        self.exactly(plain_step(PLAIN, ("drop", 1)), dropped(PLAIN, 1))
        self.exactly(plain_step(PLAIN, ("change", GROW))[2], ((0, "box", (20, 1)), (1, "lid", (0, 5)), (2, "box", (9, None))))
        self.exactly(plain_step(PLAIN, ("change", ())), PLAIN)

    def test_no_steps(self):
        for step in [*ODD, (), ("make",), ("make", "box"), ("make", "box", [None, 1]), ("make", "box", None),
                     ("make", "box", (None, 1), 1), ("write", 0, "size"), ("write", 0, "size", 1, 1), ("drop",),
                     ("drop", 0, 0), ("change",), ("change", (), ()), ["drop", 0], (["drop"], 0), (True, 0), (0, 0),
                     ("Drop", 0), ("touch", (0,)), ("drop"), None]:
            with self.assertRaises(InvalidStep) as caught:
                plain_step(PLAIN, step)
            self.assertIs(caught.exception.step, step)
            self.exactly(caught.exception.word, "step")

    def test_a_step_with_a_wrong_change(self):
        for thing, word, at in ((5, "shape", -1), ([], "shape", -1), ((("lid", (), None),), "new", 0)):
            self.refused(InvalidPaper, {"word": word, "at": at}, plain_step, PLAIN, ("change", thing))

    def test_what_is_left_is_a_plain_store(self):
        for seed in range(200):
            rng = random.Random(seed)
            plain = random_plain(rng, random_schema(rng))
            for _ in range(8):
                before = repr(plain)
                try:
                    after = plain_step(plain, self.some_step(rng, plain))
                except LateError:
                    after = plain
                self.assertEqual(repr(plain), before)
                self.assertTrue(is_plain(after))
                plain = after

    def some_step(self, rng, plain):
        schema, limit, _ = plain
        number, field = rng.randint(0, limit), rng.choice(("f", "g", "h", "to"))
        form = rng.choice(schema)
        return rng.choice((
            ("make", form[0], tuple(rng.choice((None, 0, 1, 2)) for _ in form[1])),
            ("write", number, field, rng.choice((None, 0, 1, 2, number))), ("drop", number),
            ("change", random_change(rng, schema, 5)),
        ))


if __name__ == "__main__":
    unittest.main()
