"""Promises k52, k53 and k85, points [3], [14], [24], [25], [38] to [40]: readings of sheets."""

import random
import time
import unittest

from slipleaf.arrows import due_rows
from slipleaf.booklets import Booklet
from slipleaf.errors import BadNumber, BadSheet, NoRecord, TooMany
from slipleaf.forms import Form
from slipleaf.groups import Group
from slipleaf.issues import Issue
from slipleaf.kinds import answers_of, size_of
from slipleaf.orders import best_order, ordered
from slipleaf.reading import read_form
from slipleaf.readings import Reading
from slipleaf.slips import slips_on
from tests.helper import ODD_THINGS, LeafCase, ask
from tests.makers import random_issue
from tests.oracle import lawful_records, random_form, seeded, table_by_words
from tests.paper_oracle import random_sheet, reading_by_words
from tests.test_arrows import form_of_rests

RENT = read_form("ask own pick 2\nask rent count 0 2 when is own 1")
ISSUE = Issue.made(RENT)
NONE = read_form("ask a pick 2\ncheck c not asked a\nask b pick 2\nask c pick 2\nask d pick 2\nask e pick 2")


class Examples(LeafCase):
    def test_example(self):
        reading = Reading(ISSUE, (0, 2))
        self.assertEqual((reading.fewest, list(reading.group().records())), (1, [(0, None), (1, 2)]))
        self.assertEqual((bool(reading), reading.only, reading.issue, reading.sheet), (False, None, ISSUE, (0, 2)))
        self.assertEqual(list(reading.group(extra=1).records()), [(0, None), (1, 0), (1, 1), (1, 2)])

    def test_sure_ones(self):
        for sheet, record in (((1, 2), (1, 2)), ((0, -1), (0, None)), ((0, -2), (0, None)), ((1, 99), None), ((1, 10), (1, 0))):
            reading = Reading(ISSUE, sheet)
            self.assertEqual((bool(reading), reading.only), (record is not None, record))
            self.assertIs(bool(reading), reading.group().many() == 1)
        self.assertIs(Reading(ISSUE, (1, 2)).__bool__(), True)

    def test_lost_and_empty_pages(self):
        self.assertEqual(Reading(ISSUE, (None, None)).group(), Group.lawful(RENT))
        self.assertEqual(list(Reading(ISSUE, (None, 1)).group().records()), [(1, 1)])
        self.assertEqual(Reading(ISSUE, (-1, -1)).fewest, 1)
        self.assertEqual(list(Reading(ISSUE, (-1, -1)).group().records()), [(0, None)])
        together = Issue.made(RENT, 2)
        self.assertEqual(Reading(together, (-1, -1)).group(), Group.lawful(RENT))

    def test_no_questions(self):
        reading = Reading(Issue.made(Form(())), ())
        self.assertEqual((reading.fewest, reading.only, bool(reading)), (0, (), True))
        self.assertEqual(list(reading.group(1000).records()), [()])

    def test_checks_count(self):
        form = read_form("ask a pick 3\nask b pick 3\ncheck c same a b")
        issue = Issue.made(form)
        self.assertEqual(list(Reading(issue, (0, 1)).group().records()), [(0, 0), (1, 1)])
        self.assertEqual(list(Reading(issue, (0, 1)).group(1).records()), [(0, 0), (1, 1), (2, 2)])
        self.assertEqual(Reading(issue, (2, -1)).only, (2, 2))


class ByTheWords(LeafCase):
    def test_random_sheets(self):
        sure = 0
        for rng in seeded(120):
            form = random_form(rng)
            issue = random_issue(rng, form)
            for _ in range(4):
                sheet = random_sheet(rng, issue)
                if not lawful_records(form):
                    self.assert_error(NoRecord(), Reading, issue, sheet)
                    continue
                reading = Reading(issue, sheet)
                for extra in (0, 1, 2, 5, 1000):
                    fewest, records = reading_by_words(issue, sheet, extra)
                    self.assertEqual(reading.fewest, fewest)
                    self.assertEqual(list(reading.group(extra).records()), records)
                    self.assertEqual(reading.group(extra).table, table_by_words(form, records))
                _, records = reading_by_words(issue, sheet)
                self.assertEqual(reading.only, records[0] if len(records) == 1 else None)
                self.assertIs(bool(reading), len(records) == 1)
                self.assertEqual(reading.group(1000), Group.lawful(form))
                sure += bool(reading)
        self.assertGreater(sure, 50)

    def test_right_sheets_are_read_right(self):
        for rng in seeded(60):
            form = random_form(rng)
            issue = random_issue(rng, form)
            for record in lawful_records(form)[:10]:
                reading = Reading(issue, issue.right_sheet(record))
                self.assertEqual((reading.fewest, reading.only), (0, record))

    def test_the_true_record_is_in_the_reading_with_its_slips_more(self):
        for rng in seeded(60):
            form = random_form(rng)
            issue, records = random_issue(rng, form), lawful_records(form)
            if records:
                sheet, record = random_sheet(rng, issue), rng.choice(records)
                reading, slips = Reading(issue, sheet), slips_on(issue, record, sheet)
                self.assertIn(record, reading.group(slips - reading.fewest))
                if slips > reading.fewest:
                    self.assertNotIn(record, reading.group(slips - reading.fewest - 1))

    def test_a_form_in_its_best_order(self):
        turned = 0
        for rng in seeded(120):
            many = rng.randint(1, 4)
            form = random_form(rng, many, [rng.choice((("pick", 2), ("pick", 3), ("tick", 2))) for _ in range(many)])
            names = best_order(form)
            best = ordered(form, names)
            issue = Issue.made(best)
            if not lawful_records(best):
                continue
            turned += names != form.names
            sheet = random_sheet(rng, issue)
            fewest, records = reading_by_words(issue, sheet)
            self.assertEqual((Reading(issue, sheet).fewest, list(Reading(issue, sheet).group().records())), (fewest, records))
            # Turned back, they are lawful records of the form.
            back = [tuple(record[names.index(name)] for name in form.names) for record in records]
            self.assertLessEqual(set(back), set(lawful_records(form)))
        self.assertGreater(turned, 0)


class Errors(LeafCase):
    def test_bad_sheets_go_ahead_of_no_record(self):
        issue = Issue.made(NONE)
        for thing in ODD_THINGS + ([0], (0, 0), ()):
            self.assert_error(BadSheet(0), Reading, issue, thing)
        self.assert_error(BadSheet(1), Reading, issue, (2, 0, 0, 0, 0))
        self.assert_error(BadSheet(2), Reading, ISSUE, (0, 100))
        self.assert_error(BadSheet(1), Reading, Issue.made(RENT, 2), (None, 1))
        for sheet in ((0,) * 5, (None,) * 5, (-1,) * 5):
            self.assert_error(NoRecord(), Reading, issue, sheet)
        self.assert_error(NoRecord(), Reading, Issue.made(read_form("check c not always")), ())

    def test_bad_numbers(self):
        reading = Reading(ISSUE, (0, 2))
        for extra in ODD_THINGS + (-1, 1001, "1", 10 ** 29):
            with self.assertRaises(BadNumber) as caught:
                reading.group(extra)
            self.assertIs(caught.exception.number, extra)
        self.assertEqual(reading.group(1000), Group.lawful(RENT))


def heavy_form():
    """Return a form of 39 questions with very many lawful records and a weight near the greatest."""
    items = [ask("aa", ("count", 0, 34)), ask("ab", ("count", 0, 34))]
    items += [ask(first + second, ("count", 0, 99)) for first in "cdef" for second in "abcdef"]
    for at, (low, high) in enumerate(((0, 9), (5, 20), (10, 12), (18, 30), (22, 33), (30, 34))):
        for name in ("aa", "ab"):
            letter = "uvwxyz"[at]
            items.append(ask(letter + name, ("pick", 2)))
            items.append(("check", letter + name, ("or", ("is", letter + name, (0,)), ("from", name, low, high))))
    return Form(items)


class ManyRecords(LeafCase):
    def timed(self, call, *args):
        """Return what a call gives, and fail if it takes too long."""
        begun = time.perf_counter()
        try:
            return call(*args)
        except TooMany as error:
            return error.kind
        finally:
            self.assertLess(time.perf_counter() - begun, 15)

    def slips_with(self, issue, sheet, reading, extra):
        """Fail unless the records of a reading, some of them, have the slips that they may have."""
        group = self.timed(reading.group, extra)
        if group != "rest":
            for number in (0, group.many() // 2, group.many() - 1):
                self.assertLessEqual(slips_on(issue, group.nth(number), sheet), reading.fewest + extra)
            self.assertEqual(min(slips_on(issue, record, sheet) for _, record in zip(range(20), group.records())) >=
                             reading.fewest, True)

    def test_heavy_forms(self):
        form, rng = heavy_form(), random.Random(1)
        self.assertEqual(max(form.weight_at(place) for place in range(len(form) + 1)), 36 * 36 * 3)
        for rows in (1, 40):
            issue = Issue.made(form, rows)
            for sheet in (
                tuple(rng.choice((-2, -1, 0, 1)) for _ in range(len(issue.booklet))), (-1,) * len(issue.booklet),
                tuple(rng.choice((0, 1)) for _ in range(len(issue.booklet))), (None,) * len(issue.booklet),
            ):
                reading = self.timed(Reading, issue, sheet)
                for extra in (0, 1, 2, 1000):
                    self.slips_with(issue, sheet, reading, extra)
        self.assertEqual(self.timed(reading.group, 1000), Group.lawful(form))

    def test_a_right_sheet_of_a_heavy_form(self):
        form = heavy_form()
        issue = Issue.made(form, 2)
        record = Group.lawful(form.__class__(form.source[:10])).first() + (7,) * (len(form) - 22) + (0,) * 12
        reading = self.timed(Reading, issue, issue.right_sheet(record))
        self.assertEqual((reading.fewest, reading.only), (0, record))
        self.assertEqual(list(self.timed(reading.group, 0).records()), [record])
        self.assertEqual(self.timed(reading.group, 1).many() > 1, True)

    def test_a_booklet_with_ten_rows_for_each_question(self):
        form = heavy_form()
        rows, firsts = [], [1] + [2 + 10 * at for at in range(len(form))]
        for place, (name, kind, _) in enumerate(form.questions):
            last = place == len(form) - 1
            for number in range(1 if place == 0 else 10):
                rows.append(("ask", name, tuple(
                    firsts[place + 1] + (0 if last else (answer * 7 + number) % 10) for answer in range(size_of(kind))
                )))
        booklet = Booklet(form, rows)
        self.assertEqual(len(booklet), 371)
        issue, rng = self.timed(Issue, booklet, [row // 7 + 1 for row in range(len(rows))]), random.Random(2)
        sheet = tuple(rng.choice((-1, 0, 1)) for _ in rows)
        reading = self.timed(Reading, issue, sheet)
        for extra in (0, 1, 1000):
            self.slips_with(issue, sheet, reading, extra)

    def test_just_above_3000_rests(self):
        for front, size in ((0, 3000), (1, 3001)):
            # The needs of this form as checks: so there are few rows, but as many rests of lawful records.
            items = []
            for name, kind, need in form_of_rests(front).questions:
                items.append(ask(name, kind))
                if need != ("always",):
                    items.append(("check", name, ("or", ("is", name, (0,)), need)))
            form = Form(items)
            issue = Issue.made(form)
            reading = Reading(issue, (None,) * len(issue.booklet))
            sheet = issue.right_sheet((0,) * len(form))
            self.assertEqual((reading.fewest, Reading(issue, sheet).only), (0, (0,) * len(form)))
            if size > 3000:
                self.assert_error(TooMany("rest"), Group.lawful, form)
                self.assert_error(TooMany("rest"), reading.group)
                self.assert_error(TooMany("rest"), Reading(issue, sheet).group, 1000)
            else:
                self.assertEqual((reading.group().size, reading.group()), (size, Group.lawful(form)))
                self.assertEqual(Reading(issue, sheet).group(1000), Group.lawful(form))

    def test_many_rests(self):
        # Each of the 63 answers of a is told apart up to its check at the end.
        names = [first + second for first in "bcde" for second in "abcdefghij"][:38]
        items = [ask("a", ("count", 0, 62))] + [ask(name) for name in names]
        form = Form(items + [ask("z", ("count", 0, 62)), ("check", "c", ("sum", ("a", "z"), 0, 62))])
        issue = Issue.made(form)
        lost = Reading(issue, (None,) * 40)
        self.assertEqual(lost.group().size, 1 + 63 * 38 + 63 + 1)
        self.assertEqual(lost.group(), Group.lawful(form))
        # With slips more each place has rests for each number of slips that are left.
        reading = Reading(issue, (-2,) + (0,) * 39)
        self.assertEqual((reading.fewest, reading.group().many()), (1, 63))
        self.assertGreater(reading.group(1).many(), 63 * 38)
        self.assert_error(TooMany("rest"), reading.group, 2)
        self.assertIsNone(reading.only)
        self.assertEqual(due_rows(issue.booklet, lost.group().first()), tuple(range(1, 41)))
        self.assertEqual(answers_of(form.kind_of("a"))[-1], 62)


if __name__ == "__main__":
    unittest.main()
