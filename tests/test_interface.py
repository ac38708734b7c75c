import importlib
import inspect
import unittest

from lateforms.conversions import RenamedWith
from lateforms.stores import Store
from lateforms.terms import Condition, Term

FUNCTIONS = {
    "kinds": ("is_name(thing)", "is_kind(thing)", "is_form(thing)", "is_schema(thing)"),
    "expressions": ("fits(schema, cls, kind, thing)", "lets_expression(schema, cls, kind, thing)", "parts_of(expression)"),
    "plainchecker": ("is_plain(thing)", "lets_plain(thing)"),
    "reading": ("objects_of(plain, cls)", "follow(plain, number, *path)", "number_at(plain, number, expression)",
                "link_at(plain, number, expression)", "holds_at(plain, number, condition)",
                "reads_of(plain, number, expression)"),
    "texts": ("expression_text(expression)", "kind_text(kind)", "form_text(form)"),
    "readings": ("read_expression(text, due, *, row=0, field=0)", "read_kind(text, *, row=0, field=0)",
                 "read_form(text, *, row=0, field=0)"),
    "changes": ("is_change(schema, thing)", "lets_change(schema, thing)", "schema_after(schema, change)",
                "changed(plain, thing)"),
    "plainsteps": ("made(plain, cls, *values)", "written(plain, number, field, value)", "dropped(plain, number)",
                   "plain_step(plain, step)"),
    "conversions": ("change_of(**rows)",),
    "joining": ("prefixed(expression, *path)", "joined(schema, change, other)"),
    "changereads": ("read_fields(schema, change)", "unread_fields(schema, change)"),
    "changetexts": ("change_text(change)",),
    "changereadings": ("read_change(text, *, row=0, field=0)",),
    "trees": ("tree_of(schema, cls, kind, expression)", "outcomes(schema, cls, kind, expression)", "leaves_of(thing)"),
    "unfolding": ("unfolded(plain, number, depth)",),
    "comparing": ("same_expressions(schema, cls, kind, expression, other)", "same_changes(schema, change, other)",
                  "changes_nothing(schema, change)", "difference(schema, change, other)",
                  "commute(schema, change, other)"),
    "samechecker": ("lets_same(schema, change, other, thing)",),
    "samepapers": ("same_paper(schema, change, other)",),
    "differencechecker": ("lets_difference(schema, change, other, thing)",),
    "latecells": ("fresh_late(schema)", "schema_at(late, version)", "cells_of(late)", "cell_value(late, cell)",
                  "read_cells(late, cell)", "asked(late)", "needed(late)", "plain_store(late)", "room(late)"),
    "latechecker": ("lets_late(thing)",),
    "latesteps": ("late_made(late, cls, *values)", "late_written(late, number, field, value)", "late_dropped(late, number)",
                  "late_changed(late, change)", "late_pinned(late)", "late_released(late, version)",
                  "converted(late, *numbers)", "forgotten(late)"),
    "tellings": ("told_paper(late, cell)",),
    "tellchecker": ("lets_told(late, cell, thing)",),
    "chains": ("chain_to(late, cell)", "closed_set(late, cell)"),
    "chainchecker": ("lets_chain(late, cell, thing)", "lets_closed(late, cell, thing)"),
    "freeing": ("old_cells(late, cls, version, field)", "old_needed(late, cls, version, field)",
                "to_free(late, cls, version, field)"),
    "freepapers": ("free_paper(late, cls, version, field)",),
    "freechecker": ("lets_free(late, cls, version, field, thing)",),
    "stops": ("writes_of(late, number)", "stops_of(late, number)", "write_done(late, write)"),
    "closing": ("between(late)", "closed_up(late, version)"),
    "storesteps": ("is_step(thing)",),
    "replaying": ("is_log(thing)", "replayed(schema, log)"),
    "steprows": ("step_row(step)", "schema_row(schema)", "log_rows(schema, log)"),
    "rowreadings": ("read_step(text, *, row=0)", "read_schema(text, *, row=0)", "read_log(rows)"),
}

CLASSES = {
    "terms": {
        "Term(expression)": ("by_path(*path, default=0)", "total(cls, link, field)", "least(self, *others)",
                             "most(self, *others)", "less(self, other)", "equals(self, other)",
                             "chosen(self, condition, other)"),
        "Condition(expression)": ("none(*path)", "both(self, *others)", "inverted(self)"),
    },
    "conversions": {
        "Kept(form)": (), "Renamed(form, *, old, new)": (), "Without(form, *, field)": (),
        "With(form, *, field, kind, expression)": (), "RenamedWith(form, *, old, new, field, kind, expression)": (),
    },
    "stores": {
        "Store(schema)": (
            "read(cls, text)", "plain(self)", "pending(self)", "is_swept(self)", "room(self)", "needed(self)", "object_of(self, number)",
            "walk(self)", "value_of(self, number, field)", "was(self, name, number, field)", "go(self, step)", "make(self, cls, *values)",
            "write(self, number, field, value)", "drop(self, number)", "change(self, thing)", "keep(self, name)", "release(self, name)",
            "touch(self, *numbers)", "sweep(self, most=1)", "close_up(self)", "set_pace(self, value)", "barred(self, step)",
            "do_all(self, *steps, keep=False)", "tried(self, *steps)", "undo(self)", "log(self)", "counts(self)", "table(self)",
        ),
    },
    "desk": {"Desk(schema)": ("say(self, text)", "counts(self)")},
}


def written(name, thing):
    return f"{name}{inspect.signature(thing)}"


class TestInterface(unittest.TestCase):
    """The names, arguments and files of the interface; [2]: generators and arguments."""

    def test_functions(self):
        for name, signatures in FUNCTIONS.items():
            module = importlib.import_module("lateforms." + name)
            for signature in signatures:
                word = signature.partition("(")[0]
                thing = getattr(module, word)
                self.assertEqual(written(word, thing), signature)
                self.assertEqual(thing.__module__, module.__name__)

    def test_generators(self):
        for name, words in (("expressions", ["parts_of"]), ("reading", ["objects_of"]), ("trees", ["leaves_of"]),
                            ("latecells", ["cells_of"]), ("stops", ["stops_of"])):
            for word in words:
                self.assertTrue(inspect.isgeneratorfunction(getattr(importlib.import_module("lateforms." + name), word)))

    def test_classes(self):
        for name, classes in CLASSES.items():
            module = importlib.import_module("lateforms." + name)
            for signature, methods in classes.items():
                word = signature.partition("(")[0]
                shape = getattr(module, word)
                self.assertEqual(written(word, shape), signature)
                self.assertEqual(shape.__module__, module.__name__)
                for method in methods:
                    known = vars(shape)[method.partition("(")[0]]
                    is_plain = not isinstance(known, (staticmethod, classmethod))
                    self.assertEqual([is_plain, isinstance(known, classmethod)], ["self" in method, "cls, text" in method])
                    known = known if is_plain else known.__func__
                    self.assertEqual(written(method.partition("(")[0], known), method)

    def test_methods_stand_in_each_class(self):
        for shape in (Term, Condition):
            for word in ("__init__", "__eq__", "__str__", "expression"):
                self.assertIn(word, vars(shape))
            self.assertIsInstance(vars(shape)["expression"], property)
        for shape in RenamedWith.__mro__[:-1]:
            for word in ("__init__", "entries", "form", "expressions", "row_of", "__eq__"):
                self.assertIn(word, vars(shape))
            for word in ("form", "expressions"):
                self.assertIsInstance(vars(shape)[word], property)
        for word in ("__init__", "__getitem__", "__contains__", "__len__", "__eq__", "__ne__", "__str__", "__call__"):
            self.assertIn(word, vars(Store))
        for word in ("first_schema", "schema", "version", "late", "snapshots", "pace"):
            self.assertIsInstance(vars(Store)[word], property)
            self.assertEqual(vars(Store)[word].fset is None, word != "pace")
        self.assertEqual([vars(Store)["OBJECTS"], vars(Store)["CHANGES"]], [8, 5])
        for word in ("__add__", "__radd__", "__sub__", "__rsub__", "__mul__", "__rmul__", "__neg__"):
            self.assertIn(word, vars(Term))


if __name__ == "__main__":
    unittest.main()
