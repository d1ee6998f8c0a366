"""Promise k58, points [1], [3], [44]: sheets, letters and notes."""

import unittest

from slipleaf.booklets import Booklet
from slipleaf.errors import BadPaper, BadRecord, BadSheet
from slipleaf.forms import Form
from slipleaf.issues import Issue
from slipleaf.papers import Letter, Note, Paper, Sheet
from slipleaf.reading import read_form
from tests.case_oracle import made_paper, random_told, slips_told
from tests.helper import ODD_THINGS, LeafCase
from tests.makers import random_issue
from tests.oracle import all_records, random_form, seeded

HOUSE = read_form("ask own pick 2\nask rent count 5 20 when is own 1\nask heat tick 3\nask kids count 0 9 when has heat 0")
ISSUE = Issue.made(HOUSE)
RECORD = (1, 7, 5, 3)


class Slips(LeafCase):
    def test_letters(self):
        for names, contents, slips in (
            ((), (), 0), (("own",), (1,), 0), (("own",), (0,), 1), (("own",), (-1,), 1), (("own",), (-2,), 1), (("own",), (-3,), 1),
            (("rent",), (7,), 0), (("rent",), (8,), 1), (("rent",), (17,), 1), (("rent",), (70,), 2), (("rent",), (99,), 2),
            (("rent",), (-3,), 1), (("heat",), (5,), 0), (("heat",), (-1,), 2), (("heat",), (2,), 3), (("heat",), (-3,), 1),
            (("own", "rent", "heat", "kids"), (0, 70, 2, -3), 1 + 2 + 3 + 1), (("rent", "kids"), (7, 3), 0),
        ):
            self.assertEqual(Letter(HOUSE, names, contents).slips(RECORD), slips)
            self.assertEqual(Letter(HOUSE, list(names), list(contents)).slips(RECORD), slips)

    def test_letters_where_nothing_was_asked(self):
        for content, slips in ((-3, 0), (-2, 1), (-1, 1), (0, 1), (5, 1), (99, 1)):
            self.assertEqual(Letter(HOUSE, ("rent",), (content,)).slips((0, None, 2, None)), slips)
            self.assertEqual(Letter(HOUSE, ("rent", "kids"), (content, content)).slips((0, None, 2, None)), 2 * slips)

    def test_notes(self):
        for name, value, slips in (
            ("own", 1, 0), ("own", 0, 1), ("own", None, 1), ("rent", 7, 0), ("rent", 20, 1), ("heat", 5, 0), ("heat", 4, 1),
        ):
            for weight in (1, 2, 9):
                self.assertEqual(Note(HOUSE, name, value, weight).slips(RECORD), slips * weight)
            self.assertEqual(Note(HOUSE, name, value).slips(RECORD), slips * 2)
        self.assertEqual(Note(HOUSE, "rent", None, weight=9).slips((0, None, 2, None)), 0)
        self.assertEqual(Note(HOUSE, "rent", 5, weight=9).slips((0, None, 2, None)), 9)

    def test_sheets(self):
        self.assertEqual(Sheet(ISSUE, ISSUE.right_sheet(RECORD)).slips(RECORD), 0)
        self.assertEqual(Sheet(ISSUE, (None,) * 4).slips(RECORD), 0)
        self.assertEqual(Sheet(ISSUE, (0, 70, 2, -1)).slips(RECORD), 1 + 2 + 3 + 1)

    def test_by_the_words(self):
        for rng in seeded(150):
            form = random_form(rng)
            issue = random_issue(rng, form)
            records = all_records(form)
            for record in rng.sample(records, min(5, len(records))):
                told = random_told(rng, issue, rng.choice((record, None)))
                self.assertEqual(made_paper(issue, told).slips(record), slips_told(issue, [told], record))

    def test_lawful_or_not(self):
        form = read_form("ask a pick 2\ncheck c is a 0")
        self.assertEqual(Note(form, "a", 0).slips((1,)), 2)


class Objects(LeafCase):
    def test_classes(self):
        for paper in (Sheet(ISSUE, (1, 7, 5, 3)), Letter(HOUSE, (), ()), Note(HOUSE, "own", 1)):
            self.assertIsInstance(paper, Paper)
            self.assertEqual(paper.form, HOUSE)

    def test_equal(self):
        papers = [
            Sheet(ISSUE, (1, 7, 5, 3)), Sheet(ISSUE, (1, 7, 5, 4)), Sheet(Issue.made(HOUSE, 2), (1, 7, 5, 3)),
            Letter(HOUSE, (), ()), Letter(HOUSE, ("own",), (1,)), Letter(HOUSE, ("own",), (0,)), Letter(HOUSE, ("heat",), (1,)),
            Letter(Form([]), (), ()), Note(HOUSE, "own", 1), Note(HOUSE, "own", 0), Note(HOUSE, "own", None),
            Note(HOUSE, "own", 1, 3), Note(HOUSE, "heat", 1), Note(read_form("ask own pick 2"), "own", 1),
        ]
        for at, paper in enumerate(papers):
            self.assertEqual([paper == other for other in papers], [at == beside for beside in range(len(papers))])
            for thing in ODD_THINGS:
                if type(thing).__name__ != "Agreeing":
                    self.assertIs(paper == thing, False)
        self.assertEqual(Note(HOUSE, "own", 1), Note(Form(HOUSE.flat), "own", 1, weight=2))
        self.assertEqual(Letter(HOUSE, ["own"], [1]), Letter(HOUSE, ("own",), (1,)))
        self.assertEqual(Sheet(ISSUE, (1, 7, 5, 3)), Sheet(Issue(Booklet(HOUSE, ISSUE.booklet.rows), (1, 2, 3, 4)), (1, 7, 5, 3)))

    def test_lists_are_copied(self):
        names, contents = ["own"], [1]
        letter = Letter(HOUSE, names, contents)
        names.append("rent")
        contents[0] = 0
        self.assertEqual(letter, Letter(HOUSE, ("own",), (1,)))
        self.assertEqual(letter.slips(RECORD), 0)


class Errors(LeafCase):
    def test_bad_sheets(self):
        for thing in [thing for thing in ODD_THINGS if type(thing) is not tuple] + [[1, 7, 5, 3], (1, 7, 5), ()]:
            self.assert_error(BadSheet(0), Sheet, ISSUE, thing)
        self.assert_error(BadSheet(3), Sheet, ISSUE, (1, 7, 0, 3))
        self.assert_error(BadSheet(1), Sheet, Issue.made(HOUSE, 2), (None, 7, 5, 3))
        # -3 stands in letters alone.
        self.assert_error(BadSheet(1), Sheet, ISSUE, (-3, 7, 5, 3))

    def test_bad_letters(self):
        for thing in ODD_THINGS:
            if thing not in ([], ()) and not (type(thing).__name__ == "Agreeing"):
                self.assert_error(BadPaper(), Letter, HOUSE, thing, (1,))
            self.assert_error(BadPaper(), Letter, HOUSE, ("own",), thing) if thing != (1,) else None
            self.assert_error(BadPaper(), Letter, HOUSE, (thing,), (1,))
            self.assert_error(BadPaper(), Letter, HOUSE, ("own",), (thing,))
        for names, contents in (
            ((), (1,)), (("own",), ()), (("own",), (1, 1)), (("own", "own"), (1, 1)), (("rent", "own"), (7, 1)), (("x",), (1,)),
            (("own", "x"), (1, 1)), (("own",), (2,)), (("own",), (-4,)), (("rent",), (100,)), (("heat",), (-2,)), (("heat",), (0,)),
            (("heat",), (8,)), ("own", (1,)), (("own",), 1), ({"own": 1}, (1,)), (None, None), (("heat", "rent"), (1, 7)),
            (("own", "rent"), (1, 7.0)), (("own",), (True,)),
        ):
            self.assert_error(BadPaper(), Letter, HOUSE, names, contents)

    def test_bad_notes(self):
        for thing in ODD_THINGS:
            self.assert_error(BadPaper(), Note, HOUSE, thing, 1)
            self.assert_error(BadPaper(), Note, HOUSE, "own", 1, thing)
            if thing is not None:
                self.assert_error(BadPaper(), Note, HOUSE, "own", thing)
        for name, value in (("x", 1), ("own", 2), ("own", -1), ("rent", 4), ("rent", 21), ("heat", 0), ("heat", 8), ("own", -3)):
            self.assert_error(BadPaper(), Note, HOUSE, name, value)
        for weight in (0, 10, -1, 10 ** 29, 2.0):
            self.assert_error(BadPaper(), Note, HOUSE, "own", 1, weight)
        self.assertEqual([Note(HOUSE, "own", 0, weight).slips(RECORD) for weight in (1, 9)], [1, 9])

    def test_bad_records(self):
        for paper in (Sheet(ISSUE, (1, 7, 5, 3)), Letter(HOUSE, (), ()), Letter(HOUSE, ("own",), (1,)), Note(HOUSE, "own", 1)):
            for thing in ODD_THINGS + (list(RECORD), (1, 7, 5), (0, 7, 5, 3), (1, None, 5, 3), (1, 7, 5, 10), (True, 7, 5, 3)):
                self.assert_error(BadRecord(0), paper.slips, thing)


if __name__ == "__main__":
    unittest.main()
