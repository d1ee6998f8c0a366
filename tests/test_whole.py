"""What the document promises over the whole program: from a form to its papers, books and editions, and back."""

import copy
import unittest

from slipleaf.asks import Ask
from slipleaf.books import Book
from slipleaf.carrying import carried, fewest_forgotten
from slipleaf.cases import Case
from slipleaf.editions import Edition
from slipleaf.errors import LeafError, NoRecord, TooMany
from slipleaf.followups import FollowUp
from slipleaf.forms import Form
from slipleaf.groups import Group
from slipleaf.issues import Issue
from slipleaf.journals import journal, taken_up
from slipleaf.lots import ask_again, fewest_lot
from slipleaf.papers import Letter, Note, Sheet
from slipleaf.pressing import Press
from slipleaf.readback import read_back
from slipleaf.reading import read_form
from slipleaf.repeats import fewest_repeats, repeated
from slipleaf.steps import linked, stepped
from slipleaf.totals import bounds, open_group, points
from slipleaf.trees import Tree
from slipleaf.writing import write_form
from tests.helper import ALWAYS, LeafCase
from tests.makers import random_issue, tongue_of
from tests.oracle import all_records, lawful_records, random_form, seeded
from tests.paper_oracle import contents_of, pages_of, right_by_words
from tests.step_oracle import easy_form
from tests.test_editions import random_edition

RENT = read_form("ask own pick 2\nask rent count 0 2 when is own 1")
ISSUE = Issue.made(RENT)


def with_slips(rng, issue, record, many):
    """Return the right sheet of a record with so many contents changed."""
    sheet = list(right_by_words(issue, record))
    for _ in range(many if sheet else 0):
        row = rng.randrange(len(sheet))
        sheet[row] = rng.choice(contents_of(issue.form.kind_of(issue.booklet.rows[row][1])))
    return tuple(sheet)


class FromFormToBook(LeafCase):
    def test_houses_that_are_asked_until_they_are_sure(self):
        asked = 0
        for rng in seeded(250):
            form = read_form(write_form(random_form(rng)))
            records = lawful_records(form)
            if not records:
                self.assert_error(NoRecord(), Book, Issue.made(form))
                continue
            issue, true = random_issue(rng, form), rng.choice(records)
            sheet = with_slips(rng, issue, true, rng.randint(0, 5))
            book = Book(issue, [
                ("ann", page, page, ("page", 5, page, tuple(sheet[row - 1] for row in rows))) for page, rows in pages_of(issue).items()
            ])
            case = book.case_of(5)
            self.assertEqual(case, Case(issue, [Sheet(issue, sheet)] if sheet else []))
            extra = case.slips_of(true) - case.least()
            self.assertIn(true, case.group(extra))
            self.assertEqual(open_group(book, 5, extra=extra), case.group(extra)) if sheet else None
            left = list(case.group(extra).records())
            if len(left) > 12:
                self.assert_error(TooMany("record"), ask_again, case, extra)
                self.assert_error(TooMany("record"), fewest_lot, form, left)
                continue
            names = ask_again(case, extra)
            self.assertEqual(names, fewest_lot(form, left))
            values = [true[form.place_of(name)] for name in names]
            told = tuple(-3 if value is None else value for value in values)
            # As often as there are slips more, so that no other one that was left comes near.
            for _ in range(extra + 1):
                case.put(Letter(form, names, told))
            self.assertEqual((bool(case), case.group().first()), (True, true))
            for number, name in enumerate(Tree(form, left)(true)):
                book.put(("bob", number, 9, ("note", 5, name, true[form.place_of(name)])))
                asked += 1
            again, many = taken_up(issue, journal(book) + "cut off")
            self.assertEqual((again, many), (book, len(book)))
            if extra < 2 and sheet:
                # Notes weigh 2, and all others that were left stray at one of them.
                self.assertEqual(book.state_of(5), "sure")
                self.assertEqual(bounds(book, Group.listed(form, [true])), (1, 1))
                self.assertEqual(points(book, [Group.listed(form, [true]), Group.every(form)]), ((1, 1),))
                self.assertEqual(Ask(Group.listed(form, [true]), Group.listed(form, []))(book), "sure")
        self.assertGreater(asked, 25)

    def test_what_is_printed_is_read_back_and_asked(self):
        for rng in seeded(25):
            form = random_form(rng, rng.randint(1, 5))
            tongue, issue = tongue_of(form), Issue.made(form)
            press = Press(issue.booklet, tongue, width=rng.randint(24, 80), height=60)
            rows, pages = read_back(form, tongue, press.printed(), width=press.width)
            self.assertEqual((rows, pages), (issue.booklet.rows, press.layout()))
            printed = Issue(issue.booklet, pages)
            for record in lawful_records(form)[:5]:
                case = Case(printed, [Sheet(printed, printed.right_sheet(record))])
                self.assertEqual((bool(case), case.least(), list(case.group().records())), (True, 0, [record]))


class FromEditionToEdition(LeafCase):
    def test_records_that_are_carried_are_papers_of_the_new_issue(self):
        carried_on = 0
        for rng in seeded(120):
            edition = random_edition(rng, easy_form(rng, rng.randint(1, 3)), rng.randint(1, 4))
            if len(edition.new) > 5 or not Group.lawful(edition.new):
                continue
            record = rng.choice(all_records(edition.old))
            group = carried(edition, record)
            if not group:
                try:
                    names = fewest_forgotten(edition, record)
                except NoRecord:
                    continue
                group = carried(edition, record, forgotten=names)
                self.assertTrue(names and group)
            self.assertTrue(group.within(Group.lawful(edition.new)))
            true = group.nth(rng.randrange(group.many()))
            follow = FollowUp(group)
            while follow.due is not None:
                follow.answer(true[edition.new.place_of(follow.due)])
            self.assertEqual(follow.found(), true)
            issue = Issue.made(edition.new)
            case = Case(issue, [Note(edition.new, name, value, 9) for name, value in zip(edition.new.names, true)])
            self.assertEqual((case.least(), case.group().first(), bool(case)), (0, true, True))
            carried_on += 1
        self.assertGreater(carried_on, 50)

    def test_each_step_links_what_the_edition_carries(self):
        for rng in seeded(60):
            edition = random_edition(rng, easy_form(rng, 2), 1)
            for person in {record: None for record in all_records(edition.old) if None not in record}:
                if edition.steps[0][0] != "add" or len(edition.new) < 4:
                    told = {follow for follow in linked(edition.old, edition.steps[0], person)}
                    self.assertEqual(stepped(edition.old, edition.steps[0]), edition.new)
                    group = carried(edition, person)
                    self.assertLessEqual({record for record in group.records() if None not in record}, told)


class Arguments(LeafCase):
    def test_no_argument_is_changed(self):
        entries = [("ann", 1, 5, ("strike", 9)), ("ann", 2, 5, ("return", 9))]
        steps = [("split", "own", 1, 2), ("rename", "rent", "cost")]
        records = [(1, 2), (0, None), (1, 0)]
        papers = [Note(RENT, "own", 1), Letter(RENT, ["own"], [1])]
        groups = [Group.every(RENT), Group.lawful(RENT)]
        book, edition = Book(ISSUE, entries), Edition(RENT, steps)
        for call, args, more in (
            (repeated, (RENT, [("own", 1), ("rent", 2)]), {}), (fewest_lot, (RENT, records), {}), (Tree, (RENT, records), {}),
            (Letter, (RENT, ["own", "rent"], [1, -3]), {}), (Case, (ISSUE, papers), {}), (Edition, (RENT, steps), {}),
            (carried, (edition, (1, 2)), {"forgotten": ["rent", "own"]}), (Book, (ISSUE, entries), {}), (points, (book, groups), {}),
        ):
            before = [copy.copy(arg) if isinstance(arg, list) else arg for arg in args], copy.deepcopy(more)
            call(*args, **more)
            self.assertEqual((list(args), more), before)
        self.assertEqual((RENT, len(book), edition.steps), (read_form(write_form(RENT)), 2, tuple(steps)))
        self.assertEqual(fewest_repeats(RENT, 2), (("rent", 1),))
        self.assertEqual(RENT.source, (("ask", "own", ("pick", 2), ALWAYS), ("ask", "rent", ("count", 0, 2), ("is", "own", (1,)))))

    def test_what_is_returned_belongs_to_the_caller(self):
        group = Group.every(RENT)
        follow, case = FollowUp(group), Case(ISSUE, [Note(RENT, "own", 1)])
        left = follow.left()
        follow.answer(1)
        self.assertEqual((left, group.many()), (Group.every(RENT), 4))
        joined = case + case
        joined.put(Note(RENT, "own", 0))
        self.assertEqual((len(case), len(joined), case.least()), (1, 3, 0))

    def test_errors_change_nothing(self):
        case, book, follow = Case(ISSUE, [Note(RENT, "own", 1)]), Book(ISSUE, [("ann", 1, 5, ("strike", 9))]), FollowUp(Group.every(RENT))
        edition = Edition(RENT)
        for call, args in (
            (case.put, (Note(Form([("ask", "own", ("pick", 2), ALWAYS)]), "own", 1),)), (case.group, (-1,)), (case.slips_of, (None,)),
            (book.put, (None,)), (book.put, (("ann", 1, 6, ("strike", 9)),)), (book.state_with, (9, None)), (book.is_struck, (0,)),
            (follow.answer, (2,)), (follow.back, ()), (edition.then, (None,)), (edition.then, (("drop", "own"),)),
        ):
            with self.assertRaises(LeafError):
                call(*args)
        self.assertEqual((list(case), case.least(), book.told()), ([Note(RENT, "own", 1)], 0, (("ann", 1, 5, ("strike", 9)),)))
        self.assertEqual((follow.due, follow.given, edition), ("own", (), Edition(RENT)))


if __name__ == "__main__":
    unittest.main()
