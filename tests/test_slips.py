"""Promises k51 and k84, points [3], [38], [39]: empty pages, gaps and the slips of records on sheets."""

import unittest

from slipleaf.arrows import least_booklet
from slipleaf.booklets import Booklet
from slipleaf.errors import BadRecord, BadSheet
from slipleaf.forms import Form
from slipleaf.issues import Issue
from slipleaf.reading import read_form
from slipleaf.slips import empty_pages, filled_gaps, slips_on
from tests.helper import ODD_THINGS, LeafCase
from tests.makers import random_issue, right_booklet
from tests.oracle import all_records, random_form, seeded
from tests.paper_oracle import (
    due_by_words, empty_by_words, gaps_by_words, pages_of, random_pages, random_sheet, slips_by_words,
)

FOUR = read_form("ask a pick 2\nask b tick 2\nask c count 5 9\nask d pick 3 when is a 1")
# Row 1 asks a; rows 3, 5, 6 follow for the answer 1, rows 2 and 4 for the answer 0.
ISSUE = Issue.made(FOUR, 2)
ZERO, ONE = (0, 3, 7, None), (1, 3, 7, 2)


class Examples(LeafCase):
    def test_rows(self):
        self.assertEqual([row[1] for row in ISSUE.booklet], ["a", "b", "b", "c", "c", "d"])
        self.assertEqual(ISSUE.right_sheet(ZERO), (0, 3, -1, 7, -1, -1))
        self.assertEqual(ISSUE.right_sheet(ONE), (1, -1, 3, -1, 7, 2))

    def test_slips(self):
        for record, sheet, slips, gaps in (
            (ZERO, (0, 3, -1, 7, -1, -1), 0, 0), (ZERO, (1, 3, -1, 7, -1, -1), 1, 0), (ZERO, (0, 1, -1, 17, -1, -1), 2, 0),
            (ZERO, (0, -1, -1, -1, -1, -1), 3, 0), (ZERO, (-1,) * 6, 2, 0), (ZERO, (None,) * 6, 0, 0),
            (ZERO, (0, 3, None, None, -1, -1), 0, 0), (ZERO, (0, 3, 1, 7, -1, -1), 1, 1), (ZERO, (0, 3, 1, 7, 5, -2), 2, 2),
            (ZERO, (0, 3, 1, -1, 5, -1), 3, 2), (ZERO, (-2, 3, -1, 78, -1, -1), 3, 0), (ONE, (0, 3, -1, 7, -1, -1), 6, 2),
            (ONE, (1, -1, 3, -1, 7, 2), 0, 0), (ONE, (-1, -1, 3, -1, 7, 2), 1, 0), (ONE, (None, None, 3, 9, 7, 2), 1, 1),
            (ONE, (1, 3, 3, 7, 7, 2), 2, 2), (ONE, (1, -1, 3, -1, 7, -2), 1, 0), (ONE, (1, -1, -1, -1, -1, -1), 2, 0),
        ):
            self.assertEqual(slips_on(ISSUE, record, sheet), slips)
            self.assertEqual(filled_gaps(ISSUE, record, sheet), gaps)
            self.assertEqual(slips_by_words(ISSUE, record, sheet), slips)

    def test_empty_pages(self):
        for sheet, pages in (
            ((-1,) * 6, (1, 2, 3)), ((0, -1, -1, -1, -1, -1), (2, 3)), ((None, None, -1, -1, 5, -1), (2,)),
            ((None,) * 6, ()), ((-1, 2, -1, -2, -2, -1), ()), ((-1, -1, None, None, -1, -1), (1, 3)),
        ):
            self.assertEqual(empty_pages(ISSUE, sheet), pages)

    def test_no_rows(self):
        for form in (Form(()), read_form("ask a pick 2 when not always")):
            issue, record = Issue.made(form), (None,) * len(form)
            self.assertEqual((slips_on(issue, record, ()), filled_gaps(issue, record, ()), empty_pages(issue, ())), (0, 0, ()))


class ByTheWords(LeafCase):
    def test_random_sheets(self):
        for rng in seeded(150):
            form = random_form(rng)
            issue = random_issue(rng, form)
            for _ in range(6):
                sheet = random_sheet(rng, issue)
                self.assertEqual(empty_pages(issue, sheet), tuple(empty_by_words(issue, sheet)))
                for record in rng.sample(all_records(form), min(6, len(all_records(form)))):
                    self.assertEqual(slips_on(issue, record, sheet), slips_by_words(issue, record, sheet))
                    self.assertEqual(filled_gaps(issue, record, sheet), gaps_by_words(issue, record, sheet))

    def test_right_sheets_have_no_slips(self):
        for rng in seeded(60):
            form = random_form(rng)
            issue = random_issue(rng, form)
            for record in all_records(form)[:20]:
                self.assertEqual(slips_on(issue, record, issue.right_sheet(record)), 0)

    def test_other_pages_differ_by_the_empty_pages_alone(self):
        for rng in seeded(100):
            form = random_form(rng)
            booklet = right_booklet(rng, form)
            if not len(booklet):
                continue
            one = Issue(booklet, random_pages(rng, len(booklet)))
            other = Issue(booklet, random_pages(rng, len(booklet)))
            sheet = random_sheet(rng, one, lost=0)
            for record in rng.sample(all_records(form), min(6, len(all_records(form)))):
                told = []
                for issue in (one, other):
                    empty, due = empty_pages(issue, sheet), due_by_words(booklet, record)
                    pages = pages_of(issue)
                    overlooked = [page for page in empty if set(pages[page]) & set(due)]
                    spared = sum(
                        bin(record[form.place_of(booklet.rows[row - 1][1])]).count("1")
                        if form.kind_of(booklet.rows[row - 1][1])[0] == "tick" else 1
                        for page in overlooked for row in set(pages[page]) & set(due)
                    )
                    told.append(slips_on(issue, record, sheet) - len(overlooked) + spared)
                self.assertEqual(told[0], told[1])
                self.assertEqual(filled_gaps(one, record, sheet), filled_gaps(other, record, sheet))


class Errors(LeafCase):
    def test_errors_in_order(self):
        for call in (slips_on, filled_gaps):
            for thing in ODD_THINGS + ((0, 3, 7, 2), [0, 3, 7, None], (0, 0, 7, None)):
                self.assert_error(BadRecord(0), call, ISSUE, thing, None)
            for thing in ODD_THINGS + ((-1,) * 5, [-1] * 6):
                self.assert_error(BadSheet(0), call, ISSUE, ZERO, thing)
            self.assert_error(BadSheet(2), call, ISSUE, ZERO, (None, 0, -1, 100, -1, -1))
            self.assert_error(BadSheet(1), call, ISSUE, ZERO, (None, 1, -1, 7, -1, -1))
        for thing in ODD_THINGS:
            self.assert_error(BadSheet(0), empty_pages, ISSUE, thing)
        self.assert_error(BadSheet(4), empty_pages, ISSUE, (None, 1, -1, 100, -1, -1))
        self.assert_error(BadSheet(6), empty_pages, ISSUE, (0, 1, -1, 7, -1, None))

    def test_a_booklet_that_is_not_the_least(self):
        form = read_form("ask a pick 2\nask b pick 2")
        booklet = Booklet(form, [("ask", "a", (2, 3)), ("ask", "b", (4, 4)), ("ask", "b", (4, 4))])
        issue = Issue(booklet, (1, 1, 2))
        self.assertEqual(slips_on(issue, (0, 1), (0, 1, 1)), 1)
        self.assertEqual(slips_on(issue, (1, 1), (0, 1, 1)), 2)
        self.assertNotEqual(booklet, least_booklet(form))


if __name__ == "__main__":
    unittest.main()
