"""Promise k78, points [16], [18], [45], [58], [61], [63]: asks, and which houses settle them."""

import time
import unittest

from slipleaf.asks import Ask
from slipleaf.books import Book
from slipleaf.errors import BadNumber, TooMany, Unlike
from slipleaf.forms import Form
from slipleaf.groups import Group
from slipleaf.issues import Issue
from slipleaf.reading import read_form
from tests.book_oracle import open_records, random_entries, settling_by_words
from tests.helper import ODD_THINGS, LeafCase
from tests.makers import random_issue
from tests.oracle import holding, kinds_in, lawful_records, random_condition, random_form, seeded

THREE = read_form("ask a pick 3\nask b pick 2")
ISSUE = Issue.made(THREE)
FRONT, REAR = Group.of(THREE, ("is", "a", (0,))), Group.of(THREE, ("is", "a", (1,)))
ASK = Ask(FRONT, REAR)


def book_of(*told):
    """Return a book: for each house from 1 on the answer of a that it told, or None."""
    entries = []
    for house, answer in enumerate(told, start=1):
        deed = ("return", house) if answer is None else ("note", house, "a", answer)
        entries.append(("ann", house, 5, deed))
    return Book(ISSUE, entries)


class ByHand(LeafCase):
    def test_states(self):
        for told, state in (
            ((), "never"), ((0,), "sure"), ((1,), "never"), ((2,), "never"), ((None,), "open"), ((0, None), "open"), ((1, None), "never"),
            ((0, 0, None), "sure"), ((0, 1), "never"), ((0, 0, 1), "sure"), ((1, 1, None, None), "never"), ((1, None, None), "open"),
        ):
            self.assertEqual(ASK(book_of(*told)), state, told)
            self.assertEqual((ASK.can_settle(book_of(*told)) == (), ASK.settle_surely(book_of(*told)) == ()), (state != "open",) * 2)
        self.assertEqual((ASK.front, ASK.rear), (FRONT, REAR))

    def test_who_settles_it(self):
        self.assertEqual((ASK.can_settle(book_of(None)), ASK.settle_surely(book_of(None))), ((1,), (1,)))
        # With 0 told, the other one says whether it is one more, none more, or one less.
        self.assertEqual((ASK.can_settle(book_of(0, None)), ASK.settle_surely(book_of(0, None))), ((2,), (2,)))
        # If one of three is against it, it still is open; if it is for it, too.
        self.assertEqual((ASK.can_settle(book_of(None, 2, None, None)), ASK.settle_surely(book_of(None, 2, None, None))), ((1, 3), (1, 3, 4)))
        self.assertEqual((ASK.can_settle(book_of(0, 0, None, None, None)), ASK.can_settle(book_of(1, None, None))), ((3,), (2,)))
        self.assertEqual((ASK.settle_surely(book_of(1, None, None)), ASK.settle_surely(book_of(0, 0, None, None, None))), ((2, 3), (3, 4, 5)))

    def test_slips_more(self):
        book = book_of(0, 0)
        self.assertEqual((ASK(book), ASK(book, 1), ASK(book, 2), ASK(book, extra=1000)), ("sure", "sure", "open", "open"))
        self.assertEqual((ASK.can_settle(book, 2), ASK.settle_surely(book, extra=2)), ((1,), (1, 2)))

    def test_groups_that_overlap(self):
        same = Ask(FRONT, FRONT)
        self.assertEqual((same(book_of(None, None)), same.can_settle(book_of(None)), same.settle_surely(book_of(None))), ("never", (), ()))
        every = Ask(Group.every(THREE), FRONT)
        self.assertEqual((every(book_of(0, 0)), every(book_of(1, 0)), every(book_of(None, 0))), ("never", "sure", "open"))
        self.assertEqual(Ask(Group.listed(THREE, []), FRONT)(book_of(None)), "never")

    def test_struck_houses_do_not_count(self):
        book = book_of(0, 1)
        book.put(("bob", 1, 6, ("strike", 2)))
        self.assertEqual(ASK(book), "sure")


class ByTheWords(LeafCase):
    def test_random_books(self):
        states, surely = {}, 0
        for rng in seeded(200):
            form = random_form(rng)
            issue, records = random_issue(rng, form), lawful_records(form)
            if not records:
                continue
            told = random_entries(rng, issue, rng.randint(0, 14), (1, 2, 3, 20, 999), rng.choice((None,) + tuple(records)))
            book, extra = Book(issue, told), rng.choice((0, 0, 1, 2))
            conditions = [random_condition(rng, kinds_in(form)) for _ in range(2)]
            asked = Ask(*[Group.of(form, condition) for condition in conditions])
            front, rear = [holding(form, condition) for condition in conditions]
            differences = {
                house: sorted({(record in front) - (record in rear) for record in opened})
                for house, opened in open_records(issue, told, extra).items()
            }
            low, high = sum(min(ends) for ends in differences.values()), sum(max(ends) for ends in differences.values())
            state = "sure" if low > 0 else "open" if high > 0 else "never"
            self.assertEqual(asked(book, extra), state)
            self.assertEqual(asked.can_settle(book, extra), settling_by_words(differences, False))
            self.assertEqual(asked.settle_surely(book, extra), settling_by_words(differences, True))
            states[state] = states.get(state, 0) + 1
            surely += len(asked.settle_surely(book, extra)) > 1
        self.assertGreater(min(states.values()), 15)
        self.assertGreater(surely, 10)

    def test_different_spreads(self):
        # Houses that are for or against, for or neither, and against or neither.
        conditions = {1: ("is", "a", (0, 1)), 2: ("is", "a", (0, 2)), 3: ("is", "a", (1, 2)), 4: ("always",), 5: ("is", "a", (0,))}
        spreads = {1: [-1, 1], 2: [0, 1], 3: [-1, 0], 4: [-1, 0, 1], 5: [1]}
        form = Form([("ask", "w", ("pick", 6), ("always",))] + list(THREE.flat) + [
            ("check", "c" + "abcdef"[word], ("or", ("not", ("is", "w", (word,))), condition)) for word, condition in conditions.items()
        ])
        asked = Ask(Group.of(form, ("is", "a", (0,))), Group.of(form, ("is", "a", (1,))))
        for rng in seeded(150):
            words = [rng.choice(list(conditions)) for _ in range(rng.randint(1, 7))]
            book = Book(Issue.made(form), [("ann", house, 0, ("note", house, "w", word)) for house, word in enumerate(words, start=1)])
            differences = {house: spreads[word] for house, word in enumerate(words, start=1)}
            self.assertEqual(asked.can_settle(book), settling_by_words(differences, False), words)
            self.assertEqual(asked.settle_surely(book), settling_by_words(differences, True), words)


class Errors(LeafCase):
    OTHER = Group.every(read_form("ask a pick 3"))

    def test_unlike(self):
        self.assert_error(Unlike(), Ask, FRONT, self.OTHER)
        asked = Ask(self.OTHER, self.OTHER)
        for call in (asked, asked.can_settle, asked.settle_surely):
            self.assert_error(Unlike(), call, book_of(0), -1)
        again = Ask(Group.of(Form(THREE.flat), ("is", "a", (0,))), REAR)
        self.assertEqual(again(book_of(0)), "sure")

    def test_slips_more(self):
        crowded = book_of(*[None] * 13)
        for extra in ODD_THINGS + (-1, 1001, "1", 10 ** 29):
            for call in (ASK, ASK.can_settle, ASK.settle_surely):
                with self.assertRaises(BadNumber) as caught:
                    call(crowded, extra)
                self.assertIs(caught.exception.number, extra)

    def test_12_and_13_houses(self):
        begun = time.perf_counter()
        for many in (12, 13):
            for told in ([None] * many, [None] * many + [1] * 20, [None] * many + [0] * 20, [None] * many + [2] * 300):
                book = book_of(*told)
                self.assertEqual(ASK(book), {0: "sure", 1: "never"}.get(told[-1], "open"))
                for call in (ASK.can_settle, ASK.settle_surely):
                    if many == 13:
                        # Also if the ask is not open.
                        self.assert_error(TooMany("house"), call, book)
                    elif told[-1] in (0, 1):
                        self.assertEqual(call(book), ())
                    else:
                        self.assertEqual(call(book), tuple(range(1, 7 if call == ASK.can_settle else 13)))
        self.assertLess(time.perf_counter() - begun, 20)

    def test_houses_of_one_difference_do_not_count_for_that(self):
        book = book_of(*([0] * 200 + [1] * 199 + [None] * 2))
        self.assertEqual((ASK(book), ASK.can_settle(book), ASK.settle_surely(book)), ("open", (400,), (400, 401)))


if __name__ == "__main__":
    unittest.main()
