import unittest

from lateforms import errors
from tests.samples import Case

FAMILIES = {
    "PaperError": {"InvalidPaper": ("word", "at")},
    "StoreError": {
        "UnknownObject": ("number",), "InvalidStep": ("step", "word"), "GoneCell": ("cell",),
        "UnfitExpression": ("path",), "NothingToUndo": ("count",), "InvalidPace": ("value",),
    },
    "TextError": {"InvalidText": ("row", "field"), "InvalidCommand": ("text",)},
}


class Loud:
    """An object that must not be looked at."""

    def __eq__(self, other):
        raise AssertionError("looked at")

    __hash__ = None
    __repr__ = __str__ = __len__ = __bool__ = __iter__ = __eq__


class TestErrors(Case):
    """[9]"""

    def test_base(self):
        self.assertEqual(errors.LateError.__bases__, (ValueError,))

    def test_families(self):
        for family, members in FAMILIES.items():
            self.assertEqual(getattr(errors, family).__bases__, (errors.LateError,))
            for name in members:
                self.assertEqual(getattr(errors, name).__bases__, (getattr(errors, family),))

    def test_attributes_by_position_and_by_name(self):
        for members in FAMILIES.values():
            for name, words in members.items():
                things = [Loud() for _ in words]
                for error in (
                    getattr(errors, name)(*things),
                    getattr(errors, name)(**dict(zip(words, things))),
                ):
                    self.assertEqual(list(vars(error)), list(words))
                    for word, thing in zip(words, things):
                        self.assertIs(getattr(error, word), thing)

    def test_exactly_these_attributes(self):
        for members in FAMILIES.values():
            for name, words in members.items():
                for many in (len(words) - 1, len(words) + 1):
                    with self.assertRaises(TypeError):
                        getattr(errors, name)(*range(many))

    def test_caught_by_each_family(self):
        for family in (errors.InvalidStep, errors.StoreError, errors.LateError, ValueError):
            with self.assertRaises(family):
                raise errors.InvalidStep(("drop", 1), "number")


if __name__ == "__main__":
    unittest.main()
