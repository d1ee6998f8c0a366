"""Promises k49, k50, k93 and k95, points [1], [3], [13], [21] to [23], [33] to [38]: issues and their sheets."""

import unittest

from slipleaf.arrows import due_rows, least_booklet
from slipleaf.booklets import Booklet
from slipleaf.errors import BadNumber, BadPages, BadRecord, BadRow, BadSheet, Misled, TooMany
from slipleaf.forms import Form
from slipleaf.issues import Issue
from slipleaf.judging import fault
from slipleaf.pressing import Press
from slipleaf.readback import read_back
from slipleaf.reading import read_form
from slipleaf.records import person_of
from tests.helper import ODD_THINGS, LeafCase, ask
from tests.makers import OTHER_WORDS, WORDS, changed_rows, random_issue, random_texts, right_booklet, tongue_of
from tests.oracle import all_records, random_form, seeded
from tests.paper_oracle import contents_of, fault_by_words, random_pages, random_sheet, right_by_words
from tests.print_oracle import followed
from tests.test_arrows import form_of_rests, form_of_rows

RENT = read_form("ask own pick 2\nask rent count 0 2 when is own 1")
FOUR = read_form("ask a pick 2\nask b tick 2\nask c count 5 9\nask d pick 3 when is a 1")
BOOKLET = least_booklet(FOUR)


class Made(LeafCase):
    def test_attributes(self):
        issue = Issue(least_booklet(RENT), [1, 2])
        self.assertEqual((issue.form, issue.booklet, issue.pages), (RENT, least_booklet(RENT), (1, 2)))
        self.assertEqual((issue.page_count, issue.rows_on(1), issue.rows_on(2)), (2, (1,), (2,)))

    def test_plain_issues(self):
        self.assertEqual(len(BOOKLET), 6)
        for rows, pages in (
            (1, (1, 2, 3, 4, 5, 6)), (2, (1, 1, 2, 2, 3, 3)), (4, (1, 1, 1, 1, 2, 2)), (5, (1,) * 5 + (2,)), (6, (1,) * 6),
            (400, (1,) * 6),
        ):
            issue = Issue.made(FOUR, rows)
            self.assertEqual((issue.pages, issue.booklet, issue.page_count), (pages, BOOKLET, pages[-1]))
            self.assertEqual(issue, Issue.made(form=FOUR, rows=rows))
            for page in range(1, issue.page_count + 1):
                self.assertEqual(issue.rows_on(page), tuple(row for row in range(1, 7) if pages[row - 1] == page))
        self.assertEqual(Issue.made(FOUR), Issue.made(FOUR, 1))

    def test_no_rows(self):
        for form in (Form(()), read_form("ask a pick 2 when not always")):
            issue = Issue.made(form, 400)
            self.assertEqual((issue.pages, issue.page_count), ((), 0))
            self.assert_error(BadNumber(1), issue.rows_on, 1)
            self.assertEqual(issue.right_sheet((None,) * len(form)), ())
            self.assertIsNone(issue.check_sheet(()))
            self.assert_error(BadSheet(0), issue.check_sheet, (None,))

    def test_equality(self):
        issue = Issue(least_booklet(RENT), (1, 2))
        self.assertEqual(issue, Issue.made(RENT))
        checked = read_form("ask own pick 2\nask rent count 0 2 when is own 1\ncheck a always")
        for other in (Issue(least_booklet(RENT), (1, 1)), Issue.made(checked), least_booklet(RENT), None, (1, 2)):
            self.assertNotEqual(issue, other)
            self.assertFalse(issue == other)

    def test_made_errors(self):
        for rows in ODD_THINGS + (0, 401, -1, "1"):
            if isinstance(rows, int) and not isinstance(rows, bool) and 1 <= rows <= 400:
                continue
            with self.assertRaises(BadNumber) as caught:
                Issue.made(form_of_rests(1), rows)
            self.assertIs(caught.exception.number, rows)
        self.assert_error(TooMany("rest"), Issue.made, form_of_rests(1))
        self.assert_error(TooMany("row"), Issue.made, form_of_rows(3), 400)
        self.assertEqual(Issue.made(form_of_rows(2)).page_count, 400)
        self.assertEqual(Issue.made(form_of_rows(2), rows=3).page_count, 134)

    def test_pages_of_a_number(self):
        issue = Issue.made(FOUR, 4)
        for page in ODD_THINGS + (0, 3, -1, "1"):
            with self.assertRaises(BadNumber) as caught:
                issue.rows_on(page)
            self.assertIs(caught.exception.number, page)


class Wrong(LeafCase):
    def test_errors_in_order(self):
        looking = Booklet(RENT, [("ask", "rent", (3, 3, 3)), ("look", "own", 3, (3, 3))])
        self.assert_error(BadRow(2), Issue, looking, None)
        misled = Booklet(RENT, [("ask", "own", (2, 2)), ("ask", "rent", (3, 3, 3))])
        self.assert_error(Misled((0,), 2), Issue, misled, None)
        self.assert_error(Misled((), 1), Issue, Booklet(RENT, []), None)

    def test_pages(self):
        booklet = least_booklet(RENT)
        for pages in ODD_THINGS + ((1,), (1, 1, 1), [1], "12", {1: 1, 2: 2}, range(1, 3)):
            if isinstance(pages, (list, tuple)) and len(pages) == 2:
                continue
            self.assert_error(BadPages(0), Issue, booklet, pages)
        for pages, row in (
            ((0, 1), 1), ((2, 2), 1), ((True, 1), 1), ((1, 0), 2), ((1, 3), 2), ((1, True), 2), ((1, None), 2), ((1, 1.0), 2),
            (("1", 1), 1), (([1], [1]), 1), ((1, 10 ** 29), 2), ((None, None), 1),
        ):
            self.assert_error(BadPages(row), Issue, booklet, pages)
            self.assert_error(BadPages(row), Issue, booklet, list(pages))
        for pages, row in (((1, 1, 2, 1, 2, 2), 4), ((1, 2, 3, 3, 5, 9), 5), ((1, 1, 1, 1, 1, 3), 6)):
            self.assert_error(BadPages(row), Issue, BOOKLET, pages)

    def test_misled_as_judged(self):
        for rng in seeded(80):
            form = random_form(rng)
            booklet = Booklet(form, changed_rows(rng, form, least_booklet(form).rows))
            pages, wrong = random_pages(rng, len(booklet)), fault_by_words(booklet)
            if booklet.first_look():
                # It may well lead right, but no issue is made of it.
                self.assert_error(BadRow(booklet.first_look()), Issue, booklet, pages)
            elif wrong is not None:
                self.assert_error(Misled(*wrong), Issue, booklet, pages)
            else:
                self.assertEqual(Issue(booklet, pages).pages, pages)

    def test_booklets_with_looks_lead_right(self):
        looks = [("ask", "own", (2, 2)), ("look", "own", 3, (4, 3)), ("ask", "rent", (4, 4, 4))]
        self.assertIsNone(fault(Booklet(RENT, looks)))
        self.assert_error(BadRow(2), Issue, Booklet(RENT, looks), (1, 1, 1))

    def test_lists_that_are_changed_behind_the_call(self):
        pages = [1, 2]
        issue = Issue(least_booklet(RENT), pages)
        pages[1] = 1
        self.assertEqual((issue.pages, issue), ((1, 2), Issue.made(RENT)))


class RightSheets(LeafCase):
    def test_examples(self):
        issue = Issue.made(RENT)
        self.assertEqual(issue.right_sheet((0, None)), (0, -1))
        self.assertEqual(issue.right_sheet((1, 2)), (1, 2))
        self.assertEqual(Issue.made(FOUR).right_sheet((1, 3, 9, 0)), (1, -1, 3, -1, 9, 0))

    def test_as_the_words_tell(self):
        for rng in seeded(80):
            form = random_form(rng)
            issue = random_issue(rng, form)
            for record in all_records(form)[:20]:
                sheet = issue.right_sheet(record)
                self.assertEqual(sheet, right_by_words(issue, record))
                self.assertIsNone(issue.check_sheet(sheet))

    def test_no_record(self):
        for thing in ODD_THINGS + ((0, 0), [0, None], (1, 3), (1,), (1, None), (True, 0)):
            self.assert_error(BadRecord(0), Issue.made(RENT).right_sheet, thing)


class Sheets(LeafCase):
    def test_right_ones(self):
        for rng in seeded(40):
            form = random_form(rng)
            issue = random_issue(rng, form)
            self.assertIsNone(issue.check_sheet(random_sheet(rng, issue)))
        issue = Issue.made(FOUR, 3)
        for sheet in ((-2, -1, -1, -1, -2, -2), (None,) * 3 + (3, 99, 2), (1, 1, 3) + (None,) * 3, (None,) * 6):
            self.assertIsNone(issue.check_sheet(sheet))

    def test_no_sheets(self):
        issue = Issue.made(FOUR, 3)
        for thing in ODD_THINGS + ([-1] * 6, (-1,) * 5, (-1,) * 7, "------"):
            self.assert_error(BadSheet(0), issue.check_sheet, thing)

    def test_contents_go_ahead_of_lost_pages(self):
        issue = Issue.made(FOUR, 3)
        rows = [contents_of(FOUR.kind_of(row[1])) for row in BOOKLET.rows]
        for row, contents in enumerate(rows, start=1):
            for thing in ODD_THINGS + (-3, 100, contents[-1] + 1, 0 if 0 not in contents else -3):
                sheet = [-1] * 6
                sheet[row - 1] = thing
                if thing is None:
                    self.assert_error(BadSheet(row), issue.check_sheet, tuple(sheet))
                    continue
                self.assert_error(BadSheet(row), issue.check_sheet, tuple(sheet))
                # A row of a page of which another one is lost comes later, wherever it stands.
                sheet[0 if row > 1 else 1] = None
                self.assert_error(BadSheet(row), issue.check_sheet, tuple(sheet))

    def test_lost_pages_are_lost_whole(self):
        issue = Issue.made(FOUR, 3)
        for sheet, row in (
            ((None, -1, -1, 1, 5, 0), 1), ((0, None, -1, 1, 5, 0), 2), ((0, None, None, None, None, 0), 2),
            ((None, None, None, 1, None, 0), 5), ((0, 1, 1, None, None, 2), 4), ((None, None, 1, None, None, None), 1),
        ):
            self.assert_error(BadSheet(row), issue.check_sheet, sheet)


class FromPrint(LeafCase):
    def test_printed_pages_make_an_issue(self):
        for rng in seeded(60):
            form = random_form(rng)
            booklet = right_booklet(rng, form)
            words = rng.choice((WORDS, OTHER_WORDS))
            # Texts without arrow heads, so that the reader of the test finds the arrows.
            texts = {name: tuple(piece for piece in pieces if isinstance(piece, str) and ">" not in piece)
                     for name, pieces in random_texts(rng, form).items()}
            tongue = tongue_of(form, texts=texts, words=words)
            press = Press(booklet, tongue, width=rng.randint(24, 80), height=rng.choice((16, 30, 60)))
            pages = press.printed()
            rows, row_pages = read_back(form, tongue, pages, width=press.width)
            issue = Issue(Booklet(form, rows), row_pages)
            self.assertEqual(issue, Issue(booklet, press.layout()))
            self.assertEqual(issue.page_count, len(pages))
            for record in rng.sample(all_records(form), min(6, len(all_records(form)))):
                filled = followed(form, pages, person_of(form, record), words)
                self.assertEqual(filled, issue.right_sheet(record))
                self.assertEqual([row for row, content in enumerate(filled, start=1) if content != -1],
                                 list(due_rows(booklet, record)))

    def test_a_form_of_400_rows(self):
        form = form_of_rows(2)
        press = Press(least_booklet(form), tongue_of(form), width=40, height=60)
        rows, pages = read_back(form, press.tongue, press.printed(), width=40)
        self.assertEqual(Issue(Booklet(form, rows), pages), Issue(least_booklet(form), press.layout()))

    def test_width_and_pages_do_not_change_the_issue_of_one_form(self):
        form = Form([ask("a", ("count", 0, 9)), ask("b", ("pick", 2), ("from", "a", 3, 5))])
        press = Press(least_booklet(form), tongue_of(form), height=5)
        self.assertEqual(press.layout(), (1, 2))
        self.assertEqual(Issue(press.booklet, press.layout()), Issue.made(form))


if __name__ == "__main__":
    unittest.main()
