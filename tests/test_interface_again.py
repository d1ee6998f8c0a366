"""What the interface lists from repeats on: each name in its file, with its arguments and their defaults."""

import inspect
import unittest

from slipleaf.cases import Case
from slipleaf.editions import Edition
from slipleaf.issues import Issue
from slipleaf.papers import Letter, Note, Sheet
from slipleaf.reading import read_form
from slipleaf.trees import Tree
from tests.test_interface_paper import thing_at

FUNCTIONS = {
    "repeats.repeated": "(form, times)", "repeats.fewest_repeats": "(form, wish, *, rows=1)",
    "lots.fewest_lot": "(form, records)", "lots.ask_again": "(case, extra=0)",
    "steps.stepped": "(form, step)", "steps.linked": "(form, step, person)",
}
PAPER = {"slips": "(self, record)", "__eq__": "(self, other)"}
METHODS = {
    "papers.Paper": {},
    "papers.Sheet": {"__init__": "(self, issue, contents)", **PAPER},
    "papers.Letter": {"__init__": "(self, form, names, contents)", **PAPER},
    "papers.Note": {"__init__": "(self, form, name, value, weight=2)", **PAPER},
    "cases.Case": {
        "__init__": "(self, issue, papers=())", "put": "(self, paper)", "__len__": "(self)", "__iter__": "(self)",
        "__eq__": "(self, other)", "__add__": "(self, other)", "slips_of": "(self, record)", "least": "(self)",
        "group": "(self, extra=0)", "__bool__": "(self)",
    },
    "trees.Tree": {
        "__init__": "(self, form, records)", "__len__": "(self)", "__call__": "(self, record)", "told": "(self)",
    },
    "editions.Edition": {
        "__init__": "(self, form, steps=())", "then": "(self, step)", "__add__": "(self, other)", "__len__": "(self)",
        "__iter__": "(self)", "__eq__": "(self, other)",
    },
}
PROPERTIES = {"trees.Tree": ("depth",)}
FORM = read_form("ask a pick 2\nask b pick 2 when is a 1")
ISSUE = Issue.made(FORM)


class Interface(unittest.TestCase):
    def test_functions(self):
        for path, told in FUNCTIONS.items():
            with self.subTest(path):
                self.assertEqual(str(inspect.signature(thing_at(path))), told)
                self.assertEqual(thing_at(path).__module__, "slipleaf." + path.split(".")[0])

    def test_methods_stand_in_their_class(self):
        for path, methods in METHODS.items():
            self.assertEqual(thing_at(path).__module__, "slipleaf." + path.split(".")[0])
            for name, told in methods.items():
                with self.subTest(path + "." + name):
                    self.assertEqual(str(inspect.signature(vars(thing_at(path))[name])), told)

    def test_properties(self):
        for path, names in PROPERTIES.items():
            for name in names:
                self.assertIs(type(vars(thing_at(path))[name]), property)
                self.assertIsNone(vars(thing_at(path))[name].fset)

    def test_papers_are_papers(self):
        for name in ("Sheet", "Letter", "Note"):
            self.assertEqual(thing_at("papers." + name).__bases__, (thing_at("papers.Paper"),))

    def test_attributes_are_there_from_the_beginning(self):
        for thing, names in (
            (Sheet(ISSUE, (0, 0)), ("form",)), (Letter(FORM, (), ()), ("form",)), (Note(FORM, "a", 0), ("form",)),
            (Case(ISSUE), ("issue", "form")), (Tree(FORM, [(0, None)]), ("form",)), (Edition(FORM), ("old", "new", "steps")),
        ):
            self.assertLessEqual(set(names), set(vars(thing)))

    def test_what_changes_an_object_returns_none(self):
        self.assertIsNone(Case(ISSUE).put(Note(FORM, "a", 0)))

    def test_tuples_are_returned(self):
        tree = Tree(FORM, [(0, None), (1, 1)])
        for thing in (
            thing_at("repeats.fewest_repeats")(FORM, 2), thing_at("lots.fewest_lot")(FORM, [(0, None)]),
            thing_at("lots.ask_again")(Case(ISSUE)), tree((0, None)), tree.told(), tree.told()[2], Edition(FORM, []).steps,
            list(thing_at("steps.linked")(FORM, ("drop", "b"), (0, 0)))[0],
        ):
            self.assertIs(type(thing), tuple)


if __name__ == "__main__":
    unittest.main()
