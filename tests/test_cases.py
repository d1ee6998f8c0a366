"""Promises k59, k60 and k97, points [1], [39], [40], [44] to [46], [48]: cases of papers."""

import random
import time
import unittest

from slipleaf.cases import Case
from slipleaf.errors import BadNumber, BadRecord, NoRecord, TooMany, Unlike
from slipleaf.forms import Form
from slipleaf.groups import Group
from slipleaf.issues import Issue
from slipleaf.papers import Letter, Note, Sheet
from slipleaf.reading import read_form
from slipleaf.readings import Reading
from slipleaf.trees import Tree
from tests.case_oracle import case_by_words, made_paper, random_told, slips_told
from tests.helper import ODD_THINGS, LeafCase, ask
from tests.makers import random_issue
from tests.oracle import all_records, lawful_records, random_form, seeded, table_by_words
from tests.paper_oracle import random_sheet
from tests.test_arrows import form_of_rests
from tests.test_readings import heavy_form

RENT = read_form("ask own pick 2\nask rent count 0 2 when is own 1")
ISSUE = Issue.made(RENT)
NONE = read_form("ask a pick 2\ncheck c not asked a")


class Objects(LeafCase):
    def test_no_papers(self):
        for case in (Case(ISSUE), Case(ISSUE, []), Case(ISSUE, papers=())):
            self.assertEqual((case.issue, case.form, len(case), list(case), case.least()), (ISSUE, RENT, 0, [], 0))
            self.assertEqual((case.group(), case.group(1000), bool(case)), (Group.lawful(RENT), Group.lawful(RENT), False))
        self.assertIs(bool(Case(Issue.made(Form([])))), True)
        self.assertEqual(list(Case(Issue.made(Form([]))).group().records()), [()])

    def test_put(self):
        papers = [Sheet(ISSUE, (1, -1)), Note(RENT, "rent", 1), Letter(RENT, ("own",), (1,)), Note(RENT, "rent", 1)]
        case = Case(ISSUE, papers[:1])
        self.assertIsNone(case.put(papers[1]))
        self.assertEqual((case.slips_of((1, 0)), case.slips_of((0, None)), case.least(), bool(case)), (3, 3, 1, True))
        for paper in papers[2:]:
            case.put(paper)
        self.assertEqual((len(case), list(case)), (4, papers))
        self.assertEqual((case.slips_of((1, 0)), case.least(), list(case.group().records())), (5, 1, [(1, 1)]))

    def test_put_is_seen_behind_each_question(self):
        case = Case(ISSUE)
        for value in (0, 0, 1, 1, 1, 2, 2, 2, 2):
            case.put(Note(RENT, "rent", value))
            self.assertEqual(case.least(), min(case.slips_of(record) for record in lawful_records(RENT)))
            self.assertEqual(bool(case), case.group().many() == 1)

    def test_equal(self):
        note, letter = Note(RENT, "rent", 1), Letter(RENT, ("own",), (1,))
        self.assertEqual(Case(ISSUE, [note, letter, note]), Case(ISSUE, [note, note, letter]))
        self.assertNotEqual(Case(ISSUE, [note, letter, note]), Case(ISSUE, [note, letter, letter]))
        self.assertNotEqual(Case(ISSUE, [note]), Case(ISSUE, [note, note]))
        self.assertNotEqual(Case(ISSUE), Case(Issue.made(RENT, 2)))
        self.assertEqual(Case(ISSUE), Case(Issue.made(Form(RENT.flat))))
        self.assertNotEqual(Case(ISSUE, [note]), Case(ISSUE, [Note(RENT, "rent", 1, 3)]))
        for thing in ODD_THINGS:
            if type(thing).__name__ != "Agreeing":
                self.assertIs(Case(ISSUE) == thing, False)

    def test_joined(self):
        note, letter, sheet = Note(RENT, "rent", 1), Letter(RENT, ("own",), (1,)), Sheet(ISSUE, (1, -1))
        first, second = Case(ISSUE, [note, letter]), Case(ISSUE, [sheet, note])
        joined = first + second
        self.assertEqual(list(joined), [note, letter, sheet, note])
        self.assertEqual(list(second + first), [sheet, note, note, letter])
        self.assertEqual((joined == second + first, len(first), len(second)), (True, 2, 2))
        joined.put(letter)
        self.assertEqual((len(joined), len(first), len(second)), (5, 2, 2))
        for other in (Case(Issue.made(RENT, 2)), Case(Issue.made(Form([])))):
            with self.assertRaises(Unlike):
                first + other

    def test_lists_are_copied(self):
        papers = [Note(RENT, "rent", 1)]
        case = Case(ISSUE, papers)
        papers.clear()
        self.assertEqual(len(case), 1)
        list(case).clear()
        self.assertEqual(len(case), 1)


class ByTheWords(LeafCase):
    def test_random_papers(self):
        sure = 0
        for rng in seeded(150):
            form = random_form(rng)
            issue, records = random_issue(rng, form), lawful_records(form)
            if not records:
                continue
            true = rng.choice(records)
            told = [random_told(rng, issue, rng.choice((None, true, true))) for _ in range(rng.randint(0, 5))]
            told += rng.sample(told, min(1, len(told)))
            case = Case(issue, [made_paper(issue, parts) for parts in told])
            for extra in (0, 1, 2, 5, 1000):
                fewest, wanted = case_by_words(issue, told, extra)
                self.assertEqual((case.least(), list(case.group(extra).records())), (fewest, wanted))
                self.assertEqual(case.group(extra=extra).table, table_by_words(form, wanted))
            self.assertIs(bool(case), len(case_by_words(issue, told)[1]) == 1)
            for record in rng.sample(all_records(form), min(4, len(all_records(form)))):
                self.assertEqual(case.slips_of(record), slips_told(issue, told, record))
            # The true record is in the reading with as many slips more as it has.
            more = case.slips_of(true) - case.least()
            self.assertIn(true, case.group(more))
            self.assertTrue(more == 0 or true not in case.group(more - 1))
            rng.shuffle(told)
            other = Case(issue, [made_paper(issue, parts) for parts in told])
            self.assertEqual((other, other.least(), other.group(1)), (case, case.least(), case.group(1)))
            sure += bool(case)
        self.assertGreater(sure, 30)

    def test_larger_forms(self):
        for rng in seeded(60):
            try:
                form = random_form(rng, rng.randint(6, 9))
            except TooMany:
                continue
            lawful = Group.lawful(form)
            if not lawful:
                continue
            issue = random_issue(rng, form) if rng.random() < 0.6 else Issue.made(form, rng.randint(1, 4))
            papers = [made_paper(issue, random_told(rng, issue, lawful.nth(rng.randrange(lawful.many())))) for _ in range(4)]
            case, extra = Case(issue, papers), rng.choice((0, 1, 2, 4))
            group = case.group(extra)
            self.assertEqual(case.slips_of(case.group().first()), case.least())
            for some, inside in ((group, True), (lawful - group, False)):
                for number in sorted({rng.randrange(some.many()) for _ in range(15)} if some else ()):
                    self.assertIs(case.slips_of(some.nth(number)) <= case.least() + extra, inside)
            self.assertEqual(case.first_within(extra, 5), [group.nth(number) for number in range(min(5, group.many()))])
            self.assertIs(bool(case), case.group().many() == 1)

    def test_one_sheet_is_a_reading(self):
        for rng in seeded(60):
            form = random_form(rng)
            issue = random_issue(rng, form)
            if lawful_records(form):
                sheet = random_sheet(rng, issue)
                case, reading = Case(issue, [Sheet(issue, sheet)]), Reading(issue, sheet)
                self.assertEqual((case.least(), bool(case)), (reading.fewest, bool(reading)))
                self.assertEqual([case.group(n) for n in (0, 1, 3)], [reading.group(n) for n in (0, 1, 3)])

    def test_notes_that_a_tree_asks_for(self):
        settled = 0
        for rng in seeded(120):
            form = random_form(rng)
            issue, records = random_issue(rng, form), lawful_records(form)
            if not records:
                continue
            case = Case(issue, [made_paper(issue, random_told(rng, issue, rng.choice(records))) for _ in range(2)])
            left = list(case.group().records())
            if 1 < len(left) <= 12:
                true = rng.choice(left)
                weight = rng.choice((1, 2, 9))
                for name in Tree(form, left)(true):
                    case.put(Note(form, name, true[form.place_of(name)], weight))
                # All others of those that were left have slips on one of the notes; others had more ahead of it.
                self.assertEqual((bool(case), case.group().first()), (True, true))
                settled += 1
        self.assertGreater(settled, 30)


class Errors(LeafCase):
    def test_no_record_goes_ahead_of_unlike(self):
        issue = Issue.made(NONE)
        self.assert_error(NoRecord(), Case, issue)
        self.assert_error(NoRecord(), Case, issue, [Note(RENT, "own", 1)])
        self.assert_error(NoRecord(), Case, Issue.made(read_form("check c not always")))

    def test_unlike(self):
        other = read_form("ask own pick 2\nask rent count 0 3 when is own 1")
        for paper in (
            Note(other, "own", 1), Letter(other, (), ()), Sheet(Issue.made(other), (1, 1)), Sheet(Issue.made(RENT, 2), (1, 1)),
        ):
            self.assert_error(Unlike(), Case, ISSUE, [paper])
            case = Case(ISSUE, [Note(RENT, "own", 1)])
            self.assert_error(Unlike(), Case, ISSUE, [Note(RENT, "own", 1), paper])
            self.assert_error(Unlike(), case.put, paper)
            self.assertEqual((len(case), case.least()), (1, 0))
        # Equal forms and issues are as good.
        again = read_form("ask own pick 2\nask rent count 0 2 when is own 1")
        self.assertEqual(len(Case(ISSUE, [Note(again, "own", 1), Sheet(Issue.made(again), (1, 1))])), 2)

    def test_bad_records_and_numbers(self):
        case = Case(ISSUE, [Note(RENT, "own", 1)])
        for thing in ODD_THINGS + ([1, 0], (1,), (0, 0), (1, None), (1, 3), (True, 0)):
            self.assert_error(BadRecord(0), case.slips_of, thing)
            self.assert_error(BadRecord(0), Case(ISSUE).slips_of, thing)
        for extra in ODD_THINGS + (-1, 1001, "1", 10 ** 29):
            with self.assertRaises(BadNumber) as caught:
                case.group(extra)
            self.assertIs(caught.exception.number, extra)
        self.assertEqual(case.group(1000), Group.lawful(RENT))


class Large(LeafCase):
    def timed(self, call, *args, most=10):
        """Return what a call gives, and fail if it takes too long."""
        begun = time.perf_counter()
        try:
            return call(*args)
        except TooMany as error:
            return error.kind
        finally:
            self.assertLess(time.perf_counter() - begun, most)

    def test_a_heavy_form(self):
        form, rng = heavy_form(), random.Random(3)
        issue = self.timed(Issue.made, form)
        true = Group.lawful(form).nth(10 ** 20)
        papers = [Sheet(issue, issue.right_sheet(true)), Sheet(issue, tuple(rng.choice((0, 1, -1)) for _ in issue.pages))]
        papers += [Letter(form, form.names[::2], tuple(true[::2])), Note(form, "aa", true[0], 9), Note(form, "ab", None, 1)]
        case = self.timed(Case, issue, papers)
        # What every record pays: the note that tells None.
        self.assertGreaterEqual(self.timed(case.least), 1)
        for extra in (0, 1, 2):
            group = self.timed(case.group, extra)
            if group != "rest":
                self.assertLessEqual(case.slips_of(group.nth(group.many() // 2)), case.least() + extra)
        self.timed(bool, case)
        case.put(Letter(form, form.names, true))
        case.put(Letter(form, form.names, true))
        self.assertEqual((self.timed(bool, case), self.timed(case.group).first()), (True, true))

    def test_very_many_papers(self):
        form = read_form("ask a pick 2\nask b count 0 99 when is a 0\nask c tick 4")
        issue = Issue.made(form)
        case = Case(issue, [Note(form, "b", 7, 9)] * 3000 + [Letter(form, ("c",), (15,))] * 1000 + [Note(form, "a", 1, 1)] * 999)
        self.assertEqual((self.timed(case.least), self.timed(bool, case)), (999, True))
        self.assertEqual(list(case.group(0).records()), [(0, 7, 15)])
        self.assertEqual(case.group(999).many(), 1)
        self.assertEqual(list(case.group(1000).records()), [(0, 7, 7), (0, 7, 11), (0, 7, 13), (0, 7, 14), (0, 7, 15)])
        self.assertEqual(case.slips_of((1, None, 15)), 27000)

    def test_one_thousand_slips_more(self):
        form = read_form("ask a pick 6\nask b pick 6")
        issue = Issue.made(form)
        case = Case(issue, [Note(form, "a", 0, 9)] * 111 + [Note(form, "a", 1, 1)] + [Note(form, "b", 2, 1)] * 1000)
        # a = 0 has 1 slip, a = 1 has 999, others 1000; b other than 2 has 1000 more.
        self.assertEqual((case.least(), list(case.group(997).records())), (1, [(0, 2)]))
        self.assertEqual(list(case.group(998).records()), [(0, 2), (1, 2)])
        self.assertEqual(case.group(999).many(), 6)
        self.assertEqual(list(case.group(1000).records()), [(0, b) for b in range(6)] + [(a, 2) for a in range(1, 6)])

    def test_3000_rests(self):
        for front, size in ((0, 3000), (1, 3001)):
            items = []
            for name, kind, need in form_of_rests(front).questions:
                items.append(ask(name, kind))
                if need != ("always",):
                    items.append(("check", name, ("or", ("is", name, (0,)), need)))
            form = Form(items)
            case = Case(Issue.made(form), [Note(form, form.names[0], 0, 1)])
            if size > 3000:
                self.assert_error(TooMany("rest"), case.group, 1)
            else:
                self.assertEqual(case.group(1).size, 3000)
            self.assertIs(bool(case), False)


if __name__ == "__main__":
    unittest.main()
