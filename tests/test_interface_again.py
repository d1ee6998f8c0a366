"""What the interface lists from repeats on: each name in its file, with its arguments and their defaults."""

import inspect
import unittest

from slipleaf.asks import Ask
from slipleaf.books import Book
from slipleaf.cases import Case
from slipleaf.editions import Edition
from slipleaf.followups import FollowUp
from slipleaf.groups import Group
from slipleaf.issues import Issue
from slipleaf.papers import Letter, Note, Sheet
from slipleaf.reading import read_form
from slipleaf.trees import Tree
from tests.test_interface_paper import thing_at

FUNCTIONS = {
    "repeats.repeated": "(form, times)", "repeats.fewest_repeats": "(form, wish, *, rows=1)",
    "lots.fewest_lot": "(form, records)", "lots.ask_again": "(case, extra=0)",
    "steps.stepped": "(form, step)", "steps.linked": "(form, step, person)",
    "carrying.carried": "(edition, record, *, forgotten=())", "carrying.fewest_forgotten": "(edition, record)",
    "entries.is_entry": "(issue, thing)", "entries.entry_line": "(issue, entry)", "entries.read_line": "(issue, line)",
    "journals.journal": "(book)", "journals.taken_up": "(issue, text)",
    "totals.counting": "(book)", "totals.open_group": "(book, house, *, extra=0)",
    "totals.bounds": "(book, group, *, extra=0)", "totals.points": "(book, groups, *, extra=0)",
}
PAPER = {"slips": "(self, record)", "__eq__": "(self, other)"}
METHODS = {
    "papers.Paper": {},
    "papers.Sheet": {"__init__": "(self, issue, contents)", **PAPER},
    "papers.Letter": {"__init__": "(self, form, names, contents)", **PAPER},
    "papers.Note": {"__init__": "(self, form, name, value, weight=2)", **PAPER},
    "cases.Case": {
        "__init__": "(self, issue, papers=())", "put": "(self, paper)", "__len__": "(self)", "__iter__": "(self)",
        "__eq__": "(self, other)", "__add__": "(self, other)", "slips_of": "(self, record)", "least": "(self)",
        "group": "(self, extra=0)", "__bool__": "(self)",
    },
    "trees.Tree": {
        "__init__": "(self, form, records)", "__len__": "(self)", "__call__": "(self, record)", "told": "(self)",
    },
    "editions.Edition": {
        "__init__": "(self, form, steps=())", "then": "(self, step)", "__add__": "(self, other)", "__len__": "(self)",
        "__iter__": "(self)", "__eq__": "(self, other)",
    },
    "followups.FollowUp": {
        "__init__": "(self, group)", "answer": "(self, value)", "back": "(self)", "found": "(self)", "left": "(self)",
    },
    "books.Book": {
        "__init__": "(self, issue, entries=())", "put": "(self, entry)", "__or__": "(self, other)", "__eq__": "(self, other)",
        "copy": "(self)", "__len__": "(self)", "told": "(self)", "houses": "(self)", "is_struck": "(self, house)",
        "papers_of": "(self, house)", "case_of": "(self, house)", "state_of": "(self, house)", "trial": "(self)",
        "state_with": "(self, house, entry)",
    },
    "asks.Ask": {
        "__init__": "(self, first, second)", "__call__": "(self, book, extra=0)", "can_settle": "(self, book, extra=0)",
        "settle_surely": "(self, book, extra=0)",
    },
}
PROPERTIES = {"trees.Tree": ("depth",), "followups.FollowUp": ("due", "given")}
FORM = read_form("ask a pick 2\nask b pick 2 when is a 1")
ISSUE = Issue.made(FORM)
EVERY = Group.every(FORM)


class Interface(unittest.TestCase):
    def test_functions(self):
        for path, told in FUNCTIONS.items():
            with self.subTest(path):
                self.assertEqual(str(inspect.signature(thing_at(path))), told)
                self.assertEqual(thing_at(path).__module__, "slipleaf." + path.split(".")[0])

    def test_methods_stand_in_their_class(self):
        for path, methods in METHODS.items():
            self.assertEqual(thing_at(path).__module__, "slipleaf." + path.split(".")[0])
            for name, told in methods.items():
                with self.subTest(path + "." + name):
                    self.assertEqual(str(inspect.signature(vars(thing_at(path))[name])), told)

    def test_properties(self):
        for path, names in PROPERTIES.items():
            for name in names:
                self.assertIs(type(vars(thing_at(path))[name]), property)
                self.assertIsNone(vars(thing_at(path))[name].fset)

    def test_papers_are_papers(self):
        for name in ("Sheet", "Letter", "Note"):
            self.assertEqual(thing_at("papers." + name).__bases__, (thing_at("papers.Paper"),))

    def test_attributes_are_there_from_the_beginning(self):
        for thing, names in (
            (Sheet(ISSUE, (0, 0)), ("form",)), (Letter(FORM, (), ()), ("form",)), (Note(FORM, "a", 0), ("form",)),
            (Case(ISSUE), ("issue", "form")), (Tree(FORM, [(0, None)]), ("form",)), (Edition(FORM), ("old", "new", "steps")),
            (FollowUp(EVERY), ("form",)), (Book(ISSUE), ("issue",)), (Ask(EVERY, EVERY), ("front", "rear")),
        ):
            self.assertLessEqual(set(names), set(vars(thing)))

    def test_what_changes_an_object_returns_none(self):
        self.assertIsNone(Case(ISSUE).put(Note(FORM, "a", 0)))
        self.assertIsNone(Book(ISSUE).put(("ann", 1, 2, ("strike", 3))))
        follow = FollowUp(EVERY)
        self.assertIsNone(follow.answer(1))
        self.assertIsNone(follow.back())

    def test_tuples_are_returned(self):
        tree, book = Tree(FORM, [(0, None), (1, 1)]), Book(ISSUE)
        for thing in (
            thing_at("repeats.fewest_repeats")(FORM, 2), thing_at("lots.fewest_lot")(FORM, [(0, None)]),
            thing_at("lots.ask_again")(Case(ISSUE)), tree((0, None)), tree.told(), tree.told()[2], Edition(FORM, []).steps,
            list(thing_at("steps.linked")(FORM, ("drop", "b"), (0, 0)))[0],
            thing_at("carrying.fewest_forgotten")(Edition(FORM), (0, None)), FollowUp(EVERY).given, book.told(), book.houses(),
            book.papers_of(3), thing_at("journals.taken_up")(ISSUE, ""), thing_at("totals.counting")(book),
            thing_at("totals.bounds")(book, EVERY), thing_at("totals.points")(book, [EVERY]),
            thing_at("totals.points")(book, [EVERY])[0], Ask(EVERY, EVERY).can_settle(book), Ask(EVERY, EVERY).settle_surely(book),
        ):
            self.assertIs(type(thing), tuple)


if __name__ == "__main__":
    unittest.main()
