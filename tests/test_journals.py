"""Promises k76 and k88, points [44], [56] to [60]: journals, also cut ones."""

import unittest

from slipleaf.books import Book
from slipleaf.entries import entry_line
from slipleaf.errors import NoRecord
from slipleaf.issues import Issue
from slipleaf.journals import journal, taken_up
from slipleaf.reading import read_form
from tests.book_oracle import in_order, line_by_words, random_entries
from tests.helper import LeafCase
from tests.makers import random_issue
from tests.oracle import lawful_records, random_form, seeded

RENT = read_form("ask own pick 2\nask rent count 0 2 when is own 1")
ISSUE = Issue.made(RENT)
ONE, TWO, THREE = ("ann", 1, 5, ("strike", 9)), ("bob", 1, 6, ("note", 9, "own", None)), ("ann", 2, 7, ("return", 9))
LINES = [entry_line(ISSUE, entry) for entry in (ONE, TWO, THREE)]


class ByHand(LeafCase):
    def test_journal(self):
        self.assertEqual(journal(Book(ISSUE)), "")
        self.assertEqual(journal(Book(ISSUE, [THREE, TWO, ONE])), "".join(LINES))
        self.assertEqual(journal(Book(ISSUE, [ONE])), LINES[0])

    def test_taken_up(self):
        for text, entries, many in (
            ("", [], 0), ("".join(LINES), [ONE, TWO, THREE], 3), ("".join(LINES[::-1]), [ONE, TWO, THREE], 3),
            ("".join(LINES)[:-1], [ONE, TWO], 2), (LINES[0] + LINES[0] + LINES[1], [ONE, TWO], 3), ("\n" + LINES[0], [], 0),
            (LINES[0] + "\n" + LINES[1], [ONE], 1), (LINES[0] + " " + LINES[1], [ONE], 1), (LINES[0] + "x\n" + LINES[1], [ONE], 1),
            (LINES[0] + "x", [ONE], 1), (LINES[0][:-1], [], 0), ("\n", [], 0), (LINES[0] + LINES[1][:-1] + " \n" + LINES[2], [ONE], 1),
        ):
            book, count = taken_up(ISSUE, text)
            self.assertEqual((book, count), (Book(ISSUE, entries), many), repr(text))

    def test_a_clash_ends_it(self):
        other = ("ann", 1, 6, ("strike", 9))
        book, many = taken_up(ISSUE, LINES[0] + LINES[1] + entry_line(ISSUE, other) + LINES[2])
        self.assertEqual((book, many), (Book(ISSUE, [ONE, TWO]), 2))

    def test_another_issue(self):
        # On its one page there are two rows.
        other = Issue.made(RENT, 2)
        entry = ("ann", 5, 5, ("page", 9, 1, (1, 2)))
        text = LINES[0] + entry_line(other, entry) + LINES[1]
        self.assertEqual(taken_up(ISSUE, text), (Book(ISSUE, [ONE]), 1))
        self.assertEqual(taken_up(other, text), (Book(other, [ONE, entry, TWO]), 3))

    def test_no_record(self):
        issue = Issue.made(read_form("ask a pick 2\ncheck c not asked a"))
        self.assert_error(NoRecord(), taken_up, issue, "")
        self.assert_error(NoRecord(), taken_up, issue, LINES[0])

    def test_many_lines(self):
        entries = [("ann", number, number % 1000, ("strike", number % 999 + 1)) for number in range(3000)]
        book = Book(ISSUE, entries)
        again, many = taken_up(ISSUE, journal(book))
        self.assertEqual((again, many), (book, 3000))


class ByTheWords(LeafCase):
    def test_journals_that_are_cut_anywhere(self):
        for rng in seeded(60):
            form = random_form(rng)
            issue = random_issue(rng, form)
            if not lawful_records(form):
                continue
            told = random_entries(rng, issue, 12)
            book, text = Book(issue, told), journal(Book(issue, told))
            self.assertEqual(text, "".join(line_by_words(entry) for entry in in_order(told)))
            again, many = taken_up(issue, text)
            self.assertEqual((again, many), (book, len(told)))
            for cut in [rng.randint(0, len(text)) for _ in range(6)] + [len(text) - 1 if text else 0]:
                whole = text[:cut].count("\n")
                again, many = taken_up(issue, text[:cut])
                self.assertEqual((again, many), (Book(issue, in_order(told)[:whole]), whole))
                self.assertEqual(again | book, book)

    def test_joined_and_cut_journals_meet(self):
        for rng in seeded(60):
            form = random_form(rng)
            issue = random_issue(rng, form)
            if not lawful_records(form):
                continue
            told = random_entries(rng, issue, 15)
            first, second = Book(issue, told[:9]), Book(issue, told[5:])
            # Journals one behind the other are the journal of both books, in another order.
            again, many = taken_up(issue, journal(first) + journal(second))
            self.assertEqual((again, many), (first | second, len(first) + len(second)))
            texts = [journal(book) for book in (first, second)]
            cut = [text[:rng.randint(0, len(text))] for text in texts]
            parts = [taken_up(issue, text)[0] for text in cut]
            whole = [entry for text, book in zip(cut, (first, second)) for entry in book.told()[:text.count("\n")]]
            self.assertEqual(parts[0] | parts[1], Book(issue, whole))
            # What was lost is there again as soon as it is joined with the rest.
            self.assertEqual((parts[0] | second) | (first | parts[1]), first | second)
            self.assertEqual(journal(first | second), journal(Book(issue, told)))

    def test_changed_texts(self):
        for rng in seeded(40):
            form = random_form(rng)
            issue = random_issue(rng, form)
            told = random_entries(rng, issue, 8) if lawful_records(form) else []
            if not told:
                continue
            lines = journal(Book(issue, told)).splitlines(keepends=True)
            at = rng.randrange(len(lines))
            spot = rng.randrange(len(lines[at]))
            changed = lines[at][:spot] + chr(ord(lines[at][spot]) ^ 1) + lines[at][spot + 1:]
            book, many = taken_up(issue, "".join(lines[:at]) + changed + "".join(lines[at + 1:]))
            # One changed sign changes the sum, so the line does not count.
            self.assertEqual((many, book), (at, Book(issue, in_order(told)[:at])))


if __name__ == "__main__":
    unittest.main()
