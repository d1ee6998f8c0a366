"""What the interface lists from judging to bearing: each name in its file, with its arguments and their defaults."""

import importlib
import inspect
import unittest

from slipleaf.arrows import least_booklet
from slipleaf.classes import Classes
from slipleaf.errors import LeafError
from slipleaf.forms import Form
from slipleaf.issues import Issue
from slipleaf.pressing import Press
from slipleaf.readings import Reading
from tests.makers import NUMERALS, tongue_of

FUNCTIONS = {
    "judging.fault": "(booklet)",
    "arrows.least_booklet": "(form)", "arrows.row_count": "(form)", "arrows.due_rows": "(booklet, record)",
    "orders.needed_ahead": "(form, name)", "orders.ordered": "(form, names)", "orders.orders": "(form)",
    "orders.best_order": "(form)",
    "lines.broken": "(head, body, width)",
    "printing.answers_listed": "(kind, answers)", "printing.row_lines": "(booklet, tongue, row, pages, width)",
    "readback.read_back": "(form, tongue, pages, *, width=60)",
    "slips.empty_pages": "(issue, sheet)", "slips.filled_gaps": "(issue, record, sheet)",
    "slips.slips_on": "(issue, record, sheet)",
    "bearing.rivalry": "(issue)", "bearing.unseen": "(issue)",
}
METHODS = {
    "numerals.Numerals": {
        "__init__": "(self, units, tens, *, first='tens', joiner='-')", "__call__": "(self, number)", "reads": "(self, text)",
        "twins": "(self)", "__eq__": "(self, other)",
    },
    "classes.Classes": {
        "__init__": "(self, rules)", "__len__": "(self)", "class_of": "(self, number)", "numbers_of": "(self, place)",
        "finer": "(self, other)", "__eq__": "(self, other)",
    },
    "tongues.Tongue": {
        "__init__": "(self, form, *, numerals, classes, texts, labels, words)", "label": "(self, name, answer)",
        "wording": "(self, name, record)", "paper_text": "(self, name)", "flaws": "(self)", "longest": "(self, name)",
    },
    "pressing.Press": {
        "__init__": "(self, booklet, tongue, *, width=60, height=30)", "resize": "(self, width, height)", "layout": "(self)",
        "printed": "(self)", "trial": "(self)", "printed_at": "(self, width, height)",
    },
    "issues.Issue": {
        "__init__": "(self, booklet, pages)", "__eq__": "(self, other)", "rows_on": "(self, page)",
        "right_sheet": "(self, record)", "check_sheet": "(self, sheet)",
    },
    "readings.Reading": {"__init__": "(self, issue, sheet)", "group": "(self, extra=0)", "__bool__": "(self)"},
}
# Each property, and whether it can be assigned.
PROPERTIES = {
    "numerals.Numerals": {"plain": False}, "pressing.Press": {"width": True, "height": True},
    "issues.Issue": {"page_count": False}, "readings.Reading": {"only": False},
}
GENERATORS = (("orders", "orders"), ("numerals.Numerals", "twins"), ("tongues.Tongue", "flaws"))


def thing_at(path):
    """Return the function or class that stands in a file."""
    module, name = path.split(".")
    return getattr(importlib.import_module("slipleaf." + module), name)


class Interface(unittest.TestCase):
    def test_functions(self):
        for path, told in FUNCTIONS.items():
            with self.subTest(path):
                self.assertEqual(str(inspect.signature(thing_at(path))), told)
                self.assertEqual(thing_at(path).__module__, "slipleaf." + path.split(".")[0])

    def test_methods_stand_in_their_class(self):
        for path, methods in METHODS.items():
            self.assertEqual(thing_at(path).__module__, "slipleaf." + path.split(".")[0])
            for name, told in methods.items():
                with self.subTest(path + "." + name):
                    self.assertEqual(str(inspect.signature(vars(thing_at(path))[name])), told)

    def test_properties(self):
        for path, names in PROPERTIES.items():
            for name, assigned in names.items():
                self.assertIs(type(vars(thing_at(path))[name]), property)
                self.assertIs(vars(thing_at(path))[name].fset is not None, assigned)

    def test_static_method(self):
        self.assertIs(type(vars(Issue)["made"]), staticmethod)
        self.assertEqual(str(inspect.signature(Issue.made)), "(form, rows=1)")

    def test_generators(self):
        for path, name in GENERATORS:
            owner = thing_at(path) if "." in path else importlib.import_module("slipleaf." + path)
            self.assertTrue(inspect.isgeneratorfunction(vars(owner)[name]))

    def test_attributes_are_there_from_the_beginning(self):
        form = Form([("ask", "a", ("pick", 2), ("always",))])
        issue = Issue.made(form)
        for thing, names in (
            (tongue_of(form), ("form", "numerals", "classes", "words")), (issue, ("form", "booklet", "pages")),
            (Reading(issue, (0,)), ("issue", "sheet", "fewest")),
        ):
            self.assertLessEqual(set(names), set(vars(thing)))

    def test_what_changes_an_object_returns_none(self):
        form = Form([("ask", "a", ("pick", 2), ("always",))])
        press = Press(least_booklet(form), tongue_of(form))
        self.assertIsNone(press.resize(24, 60))
        self.assertIsNone(Issue.made(form).check_sheet((0,)))

    def test_tuples_are_returned(self):
        form = Form([("ask", "a", ("pick", 2), ("always",))])
        issue, tongue = Issue.made(form), tongue_of(form)
        press = Press(issue.booklet, tongue)
        for thing in (
            issue.pages, issue.rows_on(1), issue.right_sheet((0,)), press.layout(), press.printed(), press.printed()[0],
            NUMERALS.reads("one"), Classes([]).numbers_of(0), thing_at("lines.broken")("", "", 24),
            thing_at("arrows.due_rows")(issue.booklet, (0,)), thing_at("orders.needed_ahead")(form, "a"),
            thing_at("orders.best_order")(form), thing_at("printing.row_lines")(issue.booklet, tongue, 1, [1], 24),
            thing_at("readback.read_back")(form, tongue, press.printed()), thing_at("slips.empty_pages")(issue, (0,)),
            thing_at("bearing.rivalry")(issue), thing_at("bearing.rivalry")(issue)[3], thing_at("bearing.unseen")(issue),
            thing_at("readback.read_back")(form, tongue, [])[0], Reading(issue, (0,)).only, tongue.longest("a"),
        ):
            self.assertIs(type(thing), tuple)

    def test_errors_are_leaf_errors(self):
        with self.assertRaises(LeafError):
            thing_at("lines.broken")("", "", 0)


if __name__ == "__main__":
    unittest.main()
