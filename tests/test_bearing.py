"""Promises k54 to k56, k82 and k83, points [38] to [43]: unseen slips, rivalry, and what an issue bears."""

import random
import time
import unittest

from slipleaf.arrows import row_count
from slipleaf.bearing import rivalry, unseen
from slipleaf.errors import TooMany
from slipleaf.forms import Form
from slipleaf.groups import Group
from slipleaf.issues import Issue
from slipleaf.reading import read_form
from slipleaf.readings import Reading
from slipleaf.slips import slips_on
from tests.helper import LeafCase, ask
from tests.makers import random_issue
from tests.oracle import all_records, lawful_records, random_form, seeded
from tests.paper_oracle import contents_of, rivalry_by_words, rivalry_of_two, slips_by_words, unseen_by_words

RENT = read_form("ask own pick 2\nask rent count 0 2 when is own 1")
TWICE = read_form("ask a pick 2\nask b pick 2 when is a 1\ntwice a c\ntwice b d")


def many_sheets(issue):
    """Return how many sheets without a lost page an issue has."""
    many = 1
    for row in issue.booklet.rows:
        many *= len(contents_of(issue.form.kind_of(row[1])))
    return many


def chain(many, low, high):
    """Return a form that asks one number so many times, and whose checks want it to be the same."""
    names = ["a" + first + second for first in "abcd" for second in "abcdefghij"][:many]
    items = [ask(names[0], ("count", low, high))]
    for name, other in zip(names, names[1:]):
        items += [ask(other, ("count", low, high)), ("check", other, ("same", name, other))]
    return Form(items)


def grown(rng, sheet, issue, many):
    """Return a sheet of which so many rows were changed."""
    sheet = list(sheet)
    for _ in range(many):
        row = rng.randrange(len(sheet))
        sheet[row] = rng.choice(contents_of(issue.form.kind_of(issue.booklet.rows[row][1])))
    return tuple(sheet)


def joined_all(parts):
    """Return the condition that all of these hold."""
    return ("and",) + tuple(parts) if len(parts) > 1 else parts[0]


class Examples(LeafCase):
    def test_rivalry(self):
        self.assertEqual(rivalry(Issue.made(RENT)), (1, (0, None), (1, 0), (0, 0)))
        self.assertEqual(rivalry(Issue.made(read_form("ask a pick 2"))), (1, (0,), (1,), (-2,)))
        self.assertEqual(rivalry(Issue.made(read_form("ask a tick 2"))), (1, (1,), (2,), (-1,)))
        self.assertEqual(rivalry(Issue.made(read_form("ask a count 10 12"))), (1, (10,), (11,), (-2,)))
        three = read_form("ask a pick 2\ntwice a b\ntwice a c")
        self.assertEqual(rivalry(Issue.made(three)), (2, (0, 0, 0), (1, 1, 1), (-2, 0, 1)))
        # Of an empty page just one slip is told, for whatever stands there.
        self.assertEqual(rivalry(Issue.made(three, 3)), (1, (0, 0, 0), (1, 1, 1), (-1, -1, -1)))

    def test_unseen(self):
        self.assertEqual(unseen(Issue.made(RENT)), (1, (1, 0), (1, 1)))
        self.assertEqual(unseen(Issue.made(read_form("ask a pick 2\ntwice a b"))), (2, (0, 0), (1, 1)))
        self.assertEqual(unseen(Issue.made(read_form("ask a count 9 11"))), (1, (10,), (11,)))
        self.assertEqual(unseen(Issue.made(read_form("ask a count 9 10"))), (2, (9,), (10,)))

    def test_the_first_record_is_the_one_that_has_the_slips(self):
        # An arrow that is overlooked is one slip, two pages that are overlooked are two.
        for word, few, more in (("1", (0, None, None), (1, 0, 0)), ("0", (1, None, None), (0, 0, 0))):
            issue = Issue.made(read_form(
                f"ask a pick 2\nask b pick 2 when is a {word}\nask c pick 2 when is a {word}\ncheck d not ( is b 1 or is c 1 )"
            ))
            self.assertEqual(slips_on(issue, few, issue.right_sheet(more)), 2)
            self.assertEqual(slips_on(issue, more, issue.right_sheet(few)), 3)
            self.assertEqual(unseen(issue), (2, few, more))

    def test_fewer_than_two_lawful_records(self):
        for text in ("", "check c not always", "ask a pick 2\ncheck c is a 1", "ask a pick 2 when not always",
                     "ask a pick 2\ncheck c not asked a"):
            issue = Issue.made(read_form(text))
            self.assertIsNone(rivalry(issue))
            self.assertIsNone(unseen(issue))


class ByTheWords(LeafCase):
    def test_unseen(self):
        for rng in seeded(150):
            form = random_form(rng)
            issue = random_issue(rng, form)
            if len(lawful_records(form)) <= 60:
                self.assertEqual(unseen(issue), unseen_by_words(issue))

    def test_rivalry(self):
        seen = {}
        for rng in seeded(300):
            form = random_form(rng)
            issue = random_issue(rng, form)
            records = len(lawful_records(form))
            if records <= 60 and many_sheets(issue) * max(1, records) <= 6000:
                wanted = rivalry_by_words(issue)
                self.assertEqual(rivalry(issue), wanted)
                seen[wanted and wanted[0]] = True
        self.assertLessEqual({None, 1}, set(seen))

    def test_rivalry_of_two_records(self):
        seen = {}
        for seed in list(range(40)) + [246, 261, 1478]:
            rng = random.Random(seed)
            many = rng.randint(4, 7)
            form = random_form(rng, many, [("pick", 2)] * many)
            records = all_records(form)
            chosen = rng.sample(records, 2) if len(records) > 1 else []
            issue = self.issue_with(rng, form, chosen)
            if issue is None or not 2 < len(issue.booklet) < 9:
                continue
            self.assertEqual(lawful_records(issue.form), [record for record in records if record in chosen])
            self.assertEqual(unseen(issue), unseen_by_words(issue))
            wanted = rivalry_of_two(issue)
            self.assertEqual(rivalry(issue), wanted)
            seen[wanted[0]] = seen.get(wanted[0], 0) + 1
        self.assertGreater(min(seen[1], seen[2]), 5)

    def issue_with(self, rng, form, records):
        """Return an issue of the form with one more check, so that just these records are lawful, or None."""
        told = []
        for record in records:
            parts = [("is", name, (value,)) if value is not None else ("not", ("asked", name))
                     for name, value in zip(form.names, record)]
            told.append(("and", joined_all(parts[:4]), joined_all(parts[4:])) if len(parts) > 4 else joined_all(parts))
        if not told:
            return None
        form = Form([("ask",) + question for question in form.questions] + [("check", "only", ("or",) + tuple(told))])
        return random_issue(rng, form) if row_count(form) < 20 else None

    def test_one_arrow_is_overlooked_once(self):
        for word in ("1", "0"):
            form = read_form(
                f"ask a pick 2\nask b pick 2 when is a {word}\nask c pick 2 when is a {word}\ncheck d not ( is b 1 or is c 1 )"
            )
            for pages in ((1, 2, 3), (1, 1, 1), (1, 2, 2), (1, 1, 2)):
                issue = Issue(Issue.made(form).booklet, pages)
                self.assertEqual(rivalry(issue), rivalry_by_words(issue))
                self.assertEqual(rivalry(issue)[0], 1)

    def test_questions_that_are_asked_twice(self):
        texts = (
            "ask a pick 2\ntwice a b", "ask a pick 2\ntwice a b\ntwice a c", "ask a tick 2\ntwice a b",
            "ask a pick 2\nask b pick 2 when is a 1\ntwice a c\ntwice b d", "ask a tick 3\ntwice a b",
            "ask a pick 2\ntwice a b\ntwice a c\ntwice a d", "ask a count 8 11\ntwice a b",
            "ask a pick 2\nask b pick 2\ntwice a c\ntwice b d\ncheck e not is a 0",
        )
        seen = {}
        for text in texts:
            for rows in (1, 2, 3):
                issue = Issue.made(read_form(text), rows)
                if many_sheets(issue) <= 11000:
                    wanted = rivalry_by_words(issue)
                    self.assertEqual(rivalry(issue), wanted)
                    seen[wanted[0]] = True
                self.assertEqual(unseen(issue), unseen_by_words(issue))
        self.assertLessEqual({1, 2}, set(seen))


class Bears(LeafCase):
    def issues(self):
        """Return issues of forms whose questions are asked again."""
        texts = (
            "ask a pick 3\ntwice a b\ntwice a c", "ask a pick 2\nask b pick 2 when is a 1\ntwice a c\ntwice b d\ntwice a e",
            "ask a count 3 9\ntwice a b\ntwice a c\ntwice a d", "ask a tick 3\ntwice a b\ntwice a c",
            "ask a pick 2\ntwice a b\ntwice a c\ntwice a d\ntwice a e",
        )
        return [Issue.made(read_form(text), rows) for text in texts for rows in (1, 2)]

    def test_fewer_slips_are_read_surely(self):
        rng, counted = random.Random(3), 0
        for issue in self.issues():
            least = rivalry(issue)[0]
            for record in lawful_records(issue.form):
                for _ in range(12):
                    sheet = grown(rng, issue.right_sheet(record), issue, rng.randint(0, 3))
                    slips = slips_on(issue, record, sheet)
                    if slips < least:
                        self.assertEqual((Reading(issue, sheet).only, Reading(issue, sheet).fewest), (record, slips))
                        counted += slips > 0
        self.assertGreater(counted, 100)

    def test_rivals_are_both_read(self):
        for issue in self.issues() + [Issue.made(RENT), Issue.made(TWICE, 3)]:
            least, first, second, sheet = rivalry(issue)
            self.assertIsNone(issue.check_sheet(sheet))
            self.assertNotIn(None, sheet)
            told = [slips_on(issue, record, sheet) for record in (first, second)]
            self.assertEqual(max(told), least)
            self.assertEqual(told, [slips_by_words(issue, record, sheet) for record in (first, second)])
            reading = Reading(issue, sheet)
            group = reading.group(least - reading.fewest)
            self.assertTrue(first in group and second in group)
            self.assertGreater(Group.lawful(issue.form).rank(second), Group.lawful(issue.form).rank(first))

    def test_no_more_than_are_unseen(self):
        for issue in self.issues():
            self.assertLessEqual(rivalry(issue)[0], unseen(issue)[0])
            self.assertLessEqual(unseen(issue)[0], 2 * rivalry(issue)[0] + issue.page_count)

    def test_asked_again_they_bear_more(self):
        once = Issue.made(read_form("ask a pick 3"))
        self.assertEqual([rivalry(once)[0], unseen(once)[0]], [1, 1])
        often = Issue.made(read_form("ask a pick 3\ntwice a b\ntwice a c\ntwice a d\ntwice a e"))
        self.assertEqual([rivalry(often)[0], unseen(often)[0]], [3, 5])


class Bounds(LeafCase):
    def timed(self, call, *args):
        """Return what a call gives, and fail if it takes too long."""
        begun = time.perf_counter()
        try:
            return call(*args)
        finally:
            self.assertLess(time.perf_counter() - begun, 15)

    def test_60_records(self):
        for many, high in ((1, 59), (1, 60), (21, 59), (21, 60)):
            issue = Issue.made(chain(many, 0, high))
            self.assertEqual(Group.lawful(issue.form).many(), high + 1)
            if high == 60:
                self.assert_error(TooMany("record"), rivalry, issue)
                self.assert_error(TooMany("record"), unseen, issue)
                continue
            self.assertEqual(self.timed(unseen, issue), (many, (0,) * many, (1,) * many))
            least, first, second, sheet = self.timed(rivalry, issue)
            self.assertEqual((least, first, second), ((many + 1) // 2, (0,) * many, (1,) * many))
            self.assertEqual([slips_on(issue, record, sheet) for record in (first, second)], [least, least])

    def test_very_many_records_are_no_group_that_is_too_large(self):
        names = [first + second for first in "abcde" for second in "abcdefgh"]
        spans = [("sum", ("aa", "zz"), low, high) for low, high in ((0, 7), (19, 40), (59, 61), (90, 99), (111, 130))]
        form = Form([ask(name, ("count", 0, 98)) for name in names[:39]] + [
            ask("zz", ("count", 0, 38)), ("check", "c", ("or",) + tuple(spans)),
        ])
        self.assert_error(TooMany("rest"), Group.lawful, form)
        issue = Issue.made(form)
        self.assert_error(TooMany("record"), self.timed, rivalry, issue)
        self.assert_error(TooMany("record"), self.timed, unseen, issue)

    def test_long_issues_with_different_rows(self):
        rng = random.Random(2)
        items = [ask("aa", ("count", 0, 59))]
        for letter in "abcdefghijklmn":
            spans, low = [], rng.randint(0, 4)
            while low < 59 and len(spans) < 6:
                spans.append(("from", "aa", low, min(59, low + rng.randint(0, 12))))
                low = spans[-1][3] + 2 + rng.randint(0, 8)
            name = "y" + letter
            items.append(ask(name, ("pick", 4), ("or",) + tuple(spans) if len(spans) > 1 else spans[0]))
            items.append(("check", name, ("or", ("not", ("asked", name)), ("is", name, (0,)))))
        for rows in (1, 4, 9):
            issue = Issue.made(Form(items), rows)
            self.assertGreater(len(issue.booklet), 200)
            self.assertEqual(Group.lawful(issue.form).many(), 60)
            least, first, second, sheet = self.timed(rivalry, issue)
            self.assertEqual(max(slips_on(issue, record, sheet) for record in (first, second)), least)
            told = self.timed(unseen, issue)
            self.assertEqual(slips_on(issue, told[1], issue.right_sheet(told[2])), told[0])

    def test_far_records_on_one_page_and_on_many(self):
        form = chain(20, 0, 2)
        for rows, least in ((1, 10), (4, 5), (5, 4), (10, 2), (20, 1), (400, 1)):
            issue = Issue.made(form, rows)
            told = rivalry(issue)
            self.assertEqual(told[0], least)
            self.assertEqual(max(slips_on(issue, record, told[3]) for record in told[1:3]), least)


if __name__ == "__main__":
    unittest.main()
