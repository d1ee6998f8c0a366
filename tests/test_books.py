"""Promises k74, k75 and k79, points [1], [38], [39], [44], [45], [56] to [58]: books of clerks."""

import itertools
import unittest

from slipleaf.books import Book
from slipleaf.cases import Case
from slipleaf.errors import BadEntry, BadNumber, Clash, LeafError, NoRecord, Unlike
from slipleaf.forms import Form
from slipleaf.issues import Issue
from slipleaf.papers import Letter, Note, Sheet
from slipleaf.reading import read_form
from tests.book_oracle import in_order, papers_told, random_deed, random_entries, state_by_words, struck_by_words
from tests.case_oracle import made_paper
from tests.helper import ODD_THINGS, LeafCase
from tests.makers import random_issue
from tests.oracle import lawful_records, random_form, seeded

RENT = read_form("ask own pick 2\nask rent count 0 2 when is own 1\nask kids count 0 9")
ISSUE = Issue.made(RENT, 2)
NONE = Issue.made(read_form("ask a pick 2\ncheck c not asked a"))
HOUSES = (0, 1000, -1, 10 ** 29) + ODD_THINGS


def entry(clerk, number, day, *deed):
    """Return an entry."""
    return (clerk, number, day, deed)


class Entries(LeafCase):
    def test_put(self):
        book = Book(ISSUE)
        self.assertEqual((book.issue, len(book), book.told(), book.houses()), (ISSUE, 0, (), ()))
        first, second = entry("bob", 0, 5, "strike", 9), entry("ann", 7, 5, "note", 3, "own", 1)
        self.assertIsNone(book.put(first))
        book.put(second)
        self.assertIsNone(book.put(first))
        self.assertEqual((len(book), book.told(), book.houses()), (2, (second, first), (3, 9)))
        third = entry("ann", 6, 6, "return", 9)
        book.put(third)
        self.assertEqual(book.told(), (second, first, third))

    def test_order(self):
        told = [
            entry("b", 5, 0, "strike", 1), entry("a", 3, 1, "strike", 1), entry("a", 20, 1, "strike", 1), entry("aa", 0, 1, "strike", 1),
            entry("b", 0, 1, "strike", 1), entry("b", 3, 1, "strike", 1), entry("a", 0, 10, "strike", 1), entry("a", 1, 999, "strike", 1),
        ]
        for rng in seeded(5):
            mixed = rng.sample(told, len(told))
            self.assertEqual(Book(ISSUE, mixed).told(), tuple(told))

    def test_clash(self):
        first = entry("ann", 1, 5, "strike", 9)
        book = Book(ISSUE, (first,))
        for other in (entry("ann", 1, 6, "strike", 9), entry("ann", 1, 5, "return", 9), entry("ann", 1, 5, "strike", 8)):
            self.assert_error(Clash("ann", 1), book.put, other)
            self.assert_error(Clash("ann", 1), Book, ISSUE, [first, other])
            self.assertEqual(book.told(), (first,))
        book.put(entry("ann", 2, 6, "strike", 9))
        book.put(entry("bob", 1, 6, "strike", 9))
        self.assertEqual(len(book), 3)

    def test_equal_and_copies(self):
        told = [entry("ann", 1, 5, "strike", 9), entry("bob", 1, 5, "note", 3, "own", None)]
        book = Book(ISSUE, told)
        self.assertEqual(book, Book(Issue.made(Form(RENT.flat), 2), told[::-1]))
        self.assertNotEqual(book, Book(ISSUE, told[:1]))
        self.assertNotEqual(book, Book(Issue.made(RENT), told))
        self.assertNotEqual(Book(ISSUE), Book(Issue.made(RENT)))
        for thing in ODD_THINGS:
            if type(thing).__name__ != "Agreeing":
                self.assertIs(book == thing, False)
        other = book.copy()
        self.assertEqual((other, other.issue), (book, ISSUE))
        other.put(entry("ann", 2, 5, "strike", 9))
        self.assertEqual((len(other), len(book)), (3, 2))
        book.put(entry("ann", 3, 5, "strike", 9))
        self.assertEqual((len(other), len(book), other == book), (3, 3, False))
        told.clear()
        self.assertEqual(len(book), 3)

    def test_errors(self):
        self.assert_error(NoRecord(), Book, NONE)
        self.assert_error(NoRecord(), Book, NONE, [None])
        book = Book(ISSUE)
        for thing in ODD_THINGS + (["ann", 1, 5, ("strike", 9)], ("ann", 1, 5), entry("ann", 1, 5, "strike", 1000)):
            self.assert_error(BadEntry(), book.put, thing)
            self.assert_error(BadEntry(), Book, ISSUE, [entry("ann", 1, 5, "strike", 9), thing])
        first, other = entry("ann", 1, 5, "strike", 9), entry("ann", 1, 6, "strike", 9)
        self.assert_error(Clash("ann", 1), Book, ISSUE, [first, other, None])
        self.assert_error(BadEntry(), Book, ISSUE, [first, None, other])
        self.assertEqual(len(book), 0)


class Joined(LeafCase):
    def test_by_hand(self):
        one, two, three = entry("ann", 1, 5, "strike", 9), entry("bob", 1, 5, "strike", 8), entry("ann", 2, 1, "return", 9)
        first, second = Book(ISSUE, [one, two]), Book(ISSUE, [two, three])
        joined = first | second
        self.assertEqual((joined.told(), joined.issue), ((three, one, two), ISSUE))
        self.assertEqual(joined, second | first)
        joined.put(entry("zoe", 0, 0, "strike", 1))
        self.assertEqual((len(joined), len(first), len(second)), (4, 2, 2))

    def test_the_first_clash(self):
        pairs = [("b", 1), ("a", 20), ("a", 3), ("ab", 0)]
        first = Book(ISSUE, [entry(clerk, number, 5, "strike", 1) for clerk, number in pairs])
        for many in range(1, 5):
            for some in itertools.combinations(pairs, many):
                second = Book(ISSUE, [entry(clerk, number, 6, "strike", 1) for clerk, number in some])
                for one, other in ((first, second), (second, first)):
                    with self.assertRaises(Clash) as caught:
                        one | other
                    self.assertEqual((caught.exception.clerk, caught.exception.number), min(some))
        self.assertEqual(len(first), 4)

    def test_unlike(self):
        one = entry("ann", 1, 5, "strike", 9)
        for issue in (Issue.made(RENT), Issue.made(Form([]))):
            for told in ([], [entry("ann", 1, 6, "strike", 9)]):
                with self.assertRaises(Unlike):
                    Book(ISSUE, [one]) | Book(issue, told)
        self.assertEqual(Book(ISSUE, [one]) | Book(Issue.made(Form(RENT.flat), 2)), Book(ISSUE, [one]))

    def test_any_order_makes_the_same_book(self):
        for rng in seeded(100):
            form = random_form(rng)
            issue = random_issue(rng, form)
            if not lawful_records(form):
                continue
            told = random_entries(rng, issue, 20)
            book = Book(issue, told)
            parts = [Book(issue, [one for one in told if rng.random() < 0.5]) for _ in range(3)] + [Book(issue, told[::2]), Book(issue, told[1::2])]
            rng.shuffle(parts)
            joined = parts[0]
            for part in parts[1:]:
                joined = joined | part if rng.random() < 0.5 else part | joined
            put = Book(issue)
            for one in rng.sample(told, len(told)) + told[:3]:
                put.put(one)
            for other in (joined, put, (parts[0] | parts[1]) | ((parts[2] | parts[3]) | parts[4])):
                self.assertEqual((other, other.told(), len(other)), (book, tuple(in_order(told)), len(told)))
                for house in (1, 2, 3, 999):
                    self.assertEqual((other.papers_of(house), other.state_of(house)), (book.papers_of(house), book.state_of(house)))


class Houses(LeafCase):
    def test_papers_by_hand(self):
        book = Book(ISSUE, [
            entry("ann", 1, 5, "page", 9, 1, (1, 2)), entry("bob", 1, 6, "page", 9, 1, (0, -1)), entry("ann", 2, 7, "letter", 9, ("kids",), (4,)),
            entry("ann", 0, 9, "letter", 9, ("own", "rent"), (1, -3)), entry("zoe", 0, 8, "letter", 9, ("own", "kids"), (0, 5)),
            entry("ann", 3, 5, "note", 9, "kids", 3), entry("ann", 4, 5, "note", 9, "kids", 4), entry("ann", 5, 4, "note", 9, "kids", 5),
            entry("ann", 6, 0, "note", 9, "own", None), entry("ann", 7, 0, "note", 8, "own", 1),
        ])
        papers = (
            Sheet(ISSUE, (0, -1, None)), Letter(RENT, ("own", "rent", "kids"), (1, -3, 5)), Note(RENT, "own", None), Note(RENT, "kids", 4),
        )
        self.assertEqual((book.papers_of(9), list(book.case_of(9)), book.case_of(9)), (papers, list(papers), Case(ISSUE, papers)))
        self.assertEqual((book.papers_of(8), book.papers_of(1), book.houses()), ((Note(RENT, "own", 1),), (), (8, 9)))
        # The last one is the last by day, clerk and number, also if it was put in earlier.
        book.put(entry("ann", 8, 5, "page", 9, 1, (1, 1)))
        self.assertEqual(book.papers_of(9), papers)
        book.put(entry("bob", 2, 6, "page", 9, 1, (1, 1)))
        self.assertEqual(book.papers_of(9)[0], Sheet(ISSUE, (1, 1, None)))
        book.put(entry("abe", 2, 9, "page", 9, 2, (-1,)))
        self.assertEqual(book.papers_of(9)[0], Sheet(ISSUE, (1, 1, -1)))

    def test_states_by_hand(self):
        book = Book(ISSUE)
        self.assertEqual([book.state_of(house) for house in (1, 9, 999)], ["none"] * 3)
        self.assertIs(book.is_struck(9), False)
        for told, state in (
            (entry("ann", 1, 5, "note", 9, "own", 0), "open"), (entry("ann", 2, 5, "note", 9, "kids", 7), "sure"),
            (entry("ann", 3, 7, "strike", 9), "struck"), (entry("ann", 4, 6, "return", 9), "struck"), (entry("ann", 5, 7, "return", 9), "sure"),
            (entry("ann", 6, 5, "letter", 9, ("own", "rent", "kids"), (1, 2, 7)), "open"), (entry("bob", 0, 7, "strike", 9), "struck"),
        ):
            book.put(told)
            self.assertEqual((book.state_of(9), book.is_struck(9)), (state, state == "struck"))
        self.assertEqual(len(book.papers_of(9)), 3)
        other = Book(ISSUE, [entry("ann", 1, 5, "return", 9)])
        self.assertEqual((other.state_of(9), other.houses(), other.is_struck(9)), ("none", (9,), False))

    def test_by_the_words(self):
        states = {}
        for rng in seeded(150):
            form = random_form(rng)
            issue, records = random_issue(rng, form), lawful_records(form)
            if not records:
                continue
            told = random_entries(rng, issue, rng.randint(0, 20), record=rng.choice((None,) + tuple(records)))
            book = Book(issue, told)
            self.assertEqual(book.houses(), tuple(sorted({one[3][1] for one in told})))
            for house in (1, 2, 3, 500, 999):
                papers = tuple(made_paper(issue, parts) for parts in papers_told(issue, told, house))
                self.assertEqual(book.papers_of(house), papers)
                self.assertIs(book.is_struck(house), struck_by_words(told, house))
                self.assertEqual(list(book.case_of(house)), list(papers))
                state = state_by_words(issue, told, house)
                self.assertEqual(book.state_of(house), state)
                states[state] = states.get(state, 0) + 1
            self.assertEqual(book, Book(issue, told))
        self.assertGreater(min(states.values()), 30)
        self.assertEqual(sorted(states), ["none", "open", "struck", "sure"])

    def test_bad_houses(self):
        book = Book(ISSUE, [entry("ann", 1, 5, "strike", 9)])
        for house in HOUSES:
            for call in (book.is_struck, book.papers_of, book.case_of, book.state_of):
                with self.assertRaises(BadNumber) as caught:
                    call(house)
                self.assertIs(caught.exception.number, house)
            with self.assertRaises(BadNumber):
                book.state_with(house, None)

    def test_cases_are_their_own(self):
        book = Book(ISSUE, [entry("ann", 1, 5, "note", 9, "own", 0)])
        case = book.case_of(9)
        case.put(Note(RENT, "kids", 1))
        self.assertEqual((len(case), len(book.case_of(9)), len(book)), (2, 1, 1))


class Trials(LeafCase):
    FIRST = entry("ann", 1, 5, "note", 9, "own", 0)
    SECOND = entry("ann", 2, 5, "note", 9, "kids", 7)
    THIRD = entry("ann", 3, 5, "strike", 9)

    def test_behind_the_block(self):
        book = Book(ISSUE, [self.FIRST])
        with book.trial():
            book.put(self.SECOND)
            self.assertEqual((len(book), book.state_of(9)), (2, "sure"))
        self.assertEqual((book.told(), book.state_of(9)), ((self.FIRST,), "open"))
        book.put(self.SECOND)
        self.assertEqual(len(book), 2)

    def test_behind_an_error(self):
        book = Book(ISSUE, [self.FIRST])
        with self.assertRaises(BadEntry):
            with book.trial():
                book.put(self.SECOND)
                book.put(None)
        with self.assertRaises(KeyError):
            with book.trial():
                book.put(self.THIRD)
                raise KeyError("x")
        self.assertEqual(book.told(), (self.FIRST,))

    def test_one_within_another(self):
        book = Book(ISSUE, [self.FIRST])
        trial = book.trial()
        with trial:
            book.put(self.SECOND)
            for inner in (trial, book.trial()):
                with inner:
                    book.put(self.THIRD)
                    self.assertEqual(len(book), 3)
                self.assertEqual(book, Book(ISSUE, [self.FIRST, self.SECOND]))
        self.assertEqual(book, Book(ISSUE, [self.FIRST]))
        book.put(self.SECOND)
        with trial:
            book.put(self.THIRD)
        self.assertEqual(book, Book(ISSUE, [self.FIRST, self.SECOND]))

    def test_copies_made_in_a_block_stay(self):
        book = Book(ISSUE, [self.FIRST])
        with book.trial():
            book.put(self.SECOND)
            other, joined = book.copy(), book | Book(ISSUE, [self.THIRD])
        self.assertEqual((len(book), len(other), len(joined)), (1, 2, 3))

    def test_state_with(self):
        book = Book(ISSUE, [self.FIRST])
        self.assertEqual(book.state_with(9, self.SECOND), "sure")
        self.assertEqual(book.state_with(9, self.THIRD), "struck")
        self.assertEqual(book.state_with(9, self.FIRST), "open")
        self.assertEqual(book.state_with(8, self.SECOND), "none")
        clash = entry("ann", 1, 5, "note", 9, "own", 1)
        self.assert_error(BadEntry(), book.state_with, 9, None)
        self.assert_error(Clash("ann", 1), book.state_with, 9, clash)
        self.assert_error(BadNumber(0), book.state_with, 0, None)
        self.assert_error(BadNumber(1000), book.state_with, 1000, clash)
        self.assertEqual(book.told(), (self.FIRST,))

    def test_state_with_by_the_words(self):
        seen = 0
        for rng in seeded(100):
            form = random_form(rng)
            issue, records = random_issue(rng, form), lawful_records(form)
            if not records:
                continue
            told = random_entries(rng, issue, 8, (1, 2))
            book, one = Book(issue, told), ("new", 1, rng.choice((0, 3, 999)), random_deed(rng, issue, 1, rng.choice(records)))
            self.assertEqual(book.state_with(1, one), state_by_words(issue, told + [one], 1))
            self.assertEqual(book.told(), tuple(in_order(told)))
            seen += book.state_with(1, one) != book.state_of(1)
        self.assertGreater(seen, 10)

    def test_all_errors_are_of_the_program(self):
        self.assertTrue(issubclass(Clash, LeafError))


if __name__ == "__main__":
    unittest.main()
