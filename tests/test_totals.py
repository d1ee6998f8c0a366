"""Promises k77 and k89, points [16], [18], [45], [58], [61], [62]: totals as exact bounds."""

import random
import time
import unittest

from slipleaf.books import Book
from slipleaf.errors import BadNumber, TooMany, Unlike
from slipleaf.forms import Form
from slipleaf.groups import Group
from slipleaf.issues import Issue
from slipleaf.kinds import answers_of
from slipleaf.reading import read_form
from slipleaf.totals import bounds, counting, open_group, points
from tests.book_oracle import counting_by_words, open_records, papers_told, random_entries, totals_by_words
from tests.helper import ODD_THINGS, LeafCase, ask
from tests.makers import random_issue
from tests.oracle import holding, kinds_in, lawful_records, random_condition, random_form, seeded
from tests.test_readings import heavy_form

RENT = read_form("ask own pick 2\nask rent count 0 2 when is own 1")
ISSUE = Issue.made(RENT)
OWNS, RENTS = Group.of(RENT, ("is", "own", (0,))), Group.of(RENT, ("asked", "rent"))


def entry(number, house, *deed):
    """Return an entry of ann."""
    return ("ann", number, 5, (deed[0], house) + deed[1:])


def notes(houses, name="own", value=0):
    """Return entries with a note for each house."""
    return [entry(number, house, "note", name, value) for number, house in enumerate(houses)]


class ByHand(LeafCase):
    def test_counting(self):
        book = Book(ISSUE, [
            entry(1, 9, "strike"), entry(2, 7, "return"), entry(3, 1, "note", "own", 0), entry(4, 999, "note", "own", 0),
            entry(5, 999, "strike"), entry(6, 30, "strike"), entry(7, 30, "return"),
        ])
        self.assertEqual((counting(book), counting(Book(ISSUE))), ((1, 7, 30), ()))

    def test_open_groups(self):
        book = Book(ISSUE, [entry(1, 3, "note", "own", 1), entry(2, 4, "return"), entry(3, 5, "note", "rent", 2)])
        self.assertEqual(list(open_group(book, 3).records()), [(1, 0), (1, 1), (1, 2)])
        self.assertEqual(list(open_group(book, 5).records()), [(1, 2)])
        self.assertEqual(open_group(book, 4), Group.lawful(RENT))
        self.assertEqual(open_group(book, 5, extra=1).many(), 1)
        self.assertEqual(open_group(book, 5, extra=2), Group.lawful(RENT))
        self.assertEqual(open_group(book, 5, extra=1000), Group.lawful(RENT))

    def test_bounds(self):
        book = Book(ISSUE, [entry(1, 3, "note", "own", 1), entry(2, 4, "return"), entry(3, 5, "note", "rent", 2), entry(4, 6, "strike")])
        self.assertEqual((bounds(book, OWNS), bounds(book, RENTS), bounds(book, OWNS, extra=2)), ((0, 1), (2, 3), (0, 3)))
        self.assertEqual((bounds(book, Group.every(RENT)), bounds(book, Group.listed(RENT, []))), ((3, 3), (0, 0)))
        self.assertEqual(bounds(Book(ISSUE), OWNS), (0, 0))
        self.assertIs(type(bounds(book, OWNS)), tuple)

    def test_points(self):
        book = Book(ISSUE, [entry(1, 3, "note", "own", 1), entry(2, 4, "return"), entry(3, 5, "return")])
        self.assertEqual(points(book, [OWNS]), ((0,), (1,), (2,)))
        self.assertEqual(points(book, (OWNS, RENTS)), ((0, 3), (1, 2), (2, 1)))
        self.assertEqual(points(book, [OWNS, RENTS, Group.every(RENT)]), ((0, 3, 3), (1, 2, 3), (2, 1, 3)))
        two = Group.listed(RENT, [(0, None), (1, 0)])
        self.assertEqual(points(book, [OWNS, two]), ((0, 0), (0, 1), (0, 2), (0, 3), (1, 1), (1, 2), (1, 3), (2, 2), (2, 3)))
        self.assertEqual(points(Book(ISSUE), [OWNS] * 3), ((0, 0, 0),))


class ByTheWords(LeafCase):
    def test_random_books(self):
        wide = 0
        for rng in seeded(120):
            form = random_form(rng)
            issue, records = random_issue(rng, form), lawful_records(form)
            if not records:
                continue
            told = random_entries(rng, issue, rng.randint(0, 14), (1, 2, 3, 20, 999), rng.choice((None,) + tuple(records)))
            book, extra = Book(issue, told), rng.choice((0, 0, 1, 2, 1000))
            conditions = [random_condition(rng, kinds_in(form)) for _ in range(3)]
            groups, lists = [Group.of(form, told) for told in conditions], [holding(form, told) for told in conditions]
            opened = open_records(issue, told, extra)
            self.assertEqual(counting(book), counting_by_words(told))
            for house in counting(book):
                self.assertEqual(list(open_group(book, house, extra=extra).records()), opened[house])
            for group, listed in zip(groups, lists):
                totals = totals_by_words(opened, [listed])
                self.assertEqual(bounds(book, group, extra=extra), (min(totals)[0], max(totals)[0]))
                # Each total between the bounds is reached.
                low, high = bounds(book, group, extra=extra)
                self.assertEqual(points(book, [group], extra=extra), tuple((total,) for total in range(low, high + 1)))
            for many in (2, 3):
                totals = tuple(sorted(totals_by_words(opened, lists[:many])))
                self.assertEqual(points(book, groups[:many], extra=extra), totals)
                wide += len(totals) > 3
        self.assertGreater(wide, 30)

    def test_listed_groups_of_what_is_not_lawful(self):
        for rng in seeded(40):
            form = random_form(rng)
            issue, records = random_issue(rng, form), lawful_records(form)
            if not records:
                continue
            told = random_entries(rng, issue, 8)
            everything = holding(form, ("always",))
            lists = [rng.sample(everything, rng.randint(0, len(everything))) for _ in range(2)]
            groups = [Group.listed(form, told) for told in lists]
            totals = tuple(sorted(totals_by_words(open_records(issue, told), lists)))
            self.assertEqual(points(Book(issue, told), groups), totals)

    def test_papers_are_those_of_the_book(self):
        told = [entry(1, 3, "page", 1, (1,)), entry(2, 3, "letter", ("rent",), (2,))]
        self.assertEqual(papers_told(ISSUE, told, 3), [("sheet", (1, None)), ("letter", ("rent",), (2,))])
        self.assertEqual(list(open_group(Book(ISSUE, told), 3).records()), [(1, 2)])


class ByGroups(LeafCase):
    def test_larger_forms(self):
        """What is told without listing records agrees with the open groups, joined with the groups."""
        between = 0
        for rng in seeded(120):
            try:
                form = random_form(rng, rng.randint(6, 9))
                groups = [Group.of(form, random_condition(rng, kinds_in(form), 1)) for _ in range(2)]
            except TooMany:
                continue
            if not Group.lawful(form):
                continue
            issue = random_issue(rng, form) if rng.random() < 0.6 else Issue.made(form, rng.randint(1, 4))
            book = Book(issue, random_entries(rng, issue, 25, (1, 2, 3, 4, 5)))
            extra = rng.choice((0, 1, 2))
            opened = [open_group(book, house, extra=extra) for house in counting(book)]
            for group in groups:
                low = sum(not (some - group) for some in opened)
                high = sum(bool(some & group) for some in opened)
                self.assertEqual(bounds(book, group, extra=extra), (low, high))
                between += low < high
            told = {(0, 0)}
            for some in opened:
                ways = [
                    (one, other) for one in (0, 1) for other in (0, 1)
                    if some & (groups[0] if one else ~groups[0]) & (groups[1] if other else ~groups[1])
                ]
                told = {(first + one, second + other) for first, second in told for one, other in ways}
            self.assertEqual(points(book, groups, extra=extra), tuple(sorted(told)))
        self.assertGreater(between, 25)


class Errors(LeafCase):
    BOOK = Book(ISSUE, [entry(1, 3, "note", "own", 1), entry(2, 4, "strike")])
    OTHER = Group.every(read_form("ask own pick 2"))

    def test_houses(self):
        for house in (4, 5, 0, -1, 1000, 10 ** 29, 3.0) + ODD_THINGS:
            with self.assertRaises(BadNumber) as caught:
                open_group(self.BOOK, house, extra=-1)
            self.assertIs(caught.exception.number, house)
        one = Book(ISSUE, [entry(1, 1, "note", "own", 1)])
        self.assert_error(BadNumber(True), open_group, one, True)

    def test_slips_more(self):
        for extra in ODD_THINGS + (-1, 1001, "1", 10 ** 29):
            for call, args in ((open_group, (self.BOOK, 3)), (bounds, (self.BOOK, OWNS)), (points, (self.BOOK, [OWNS]))):
                with self.assertRaises(BadNumber) as caught:
                    call(*args, extra=extra)
                self.assertIs(caught.exception.number, extra)
        self.assertEqual(bounds(self.BOOK, OWNS, extra=1000), (0, 1))

    def test_unlike_goes_ahead_of_slips_more(self):
        self.assert_error(Unlike(), bounds, self.BOOK, self.OTHER, extra=-1)
        self.assert_error(Unlike(), points, self.BOOK, [OWNS, self.OTHER], extra=-1)
        self.assertEqual(bounds(self.BOOK, Group.of(Form(RENT.flat), ("is", "own", (1,)))), (1, 1))

    def test_the_number_of_groups_goes_first(self):
        for groups in ((), [], [self.OTHER] * 4, (OWNS,) * 5):
            self.assert_error(BadNumber(len(groups)), points, self.BOOK, groups, extra=-1)

    def test_2000_points(self):
        form = read_form("ask a pick 6\nask b pick 6\ncheck c ( is a 0 or is b 0 )")
        groups = [Group.of(form, ("is", "a", (0,))), Group.of(form, ("is", "b", (0,)))]
        # Each house has a, b, or both: so there are (n + 1) * (n + 2) / 2 points.
        for houses, many in ((61, 1953), (62, 2016)):
            book = Book(Issue.made(form), [("ann", house, 5, ("return", house)) for house in range(1, houses + 1)])
            if many <= 2000:
                told = points(book, groups)
                self.assertEqual((len(told), told[0], told[-1]), (many, (0, houses), (houses, houses)))
            else:
                self.assert_error(TooMany("point"), points, book, groups)
        three = groups + [Group.of(form, ("or", ("is", "a", (1, 2)), ("is", "b", (1, 2))))]
        self.assert_error(TooMany("point"), points, book, three)
        # 999 houses have 1,000 totals; 40 * 50 points are just not too many.
        full = Book(ISSUE, [("ann", house, 5, ("return", house)) for house in range(1, 1000)])
        self.assertEqual(points(full, [OWNS, RENTS])[::999], ((0, 999), (999, 0)))
        both = read_form("ask a pick 2\nask b pick 2")
        ones = [Group.of(both, ("is", name, (1,))) for name in "ab"]
        told = [entry(house, house, "note", "ab"[house < 50], 0) for house in range(1, 89)]
        self.assertEqual(len(points(Book(Issue.made(both), told), ones)), 40 * 50)
        told.append(entry(89, 89, "note", "a", 0))
        # 23 * 87 points are just too many.
        others = [entry(house, house, "note", "ab"[house < 23], 0) for house in range(1, 109)]
        self.assert_error(TooMany("point"), points, Book(Issue.made(both), others), ones)
        self.assertEqual(len(points(Book(Issue.made(both), others[:-1]), ones)), 23 * 86)
        self.assert_error(TooMany("point"), points, Book(Issue.made(both), told), ones)


class Large(LeafCase):
    def timed(self, call, *args, **more):
        """Return what a call gives, and fail if it takes too long."""
        begun = time.perf_counter()
        try:
            return call(*args, **more)
        except TooMany as error:
            return error.kind
        finally:
            self.assertLess(time.perf_counter() - begun, 10)

    def random_book(self, rng, issue, houses):
        """Return a book in which each house has a page, and some have a letter or a note."""
        form, told = issue.form, []
        for house in range(1, houses + 1):
            page = rng.randint(1, issue.page_count)
            kinds = [form.kind_of(issue.booklet.rows[row - 1][1]) for row in issue.rows_on(page)]
            told.append(entry(house, house, "page", page, tuple(rng.choice((-1,) + answers_of(kind)) for kind in kinds)))
            if house % 2:
                name = rng.choice(form.names)
                told.append(entry(5000 + house, house, "note", name, rng.choice((None,) + answers_of(form.kind_of(name)))))
        return Book(issue, told)

    def test_some_hundred_houses(self):
        form = read_form(
            "ask own pick 2\nask rent count 0 9 when is own 1\ncheck low not from rent 9 9\nask heat tick 3\n"
            "ask kids count 0 5\neach kids\nask age count 0 17\nask school pick 3 when from age 6 17\nend"
        )
        book = self.random_book(random.Random(1), Issue.made(form, 4), 500)
        groups = [Group.of(form, told) for told in (("is", "own", (1,)), ("from", "kids", 2, 5), ("is", "school1", (0, 1)))]
        for extra in (0, 1, 1000):
            low, high = self.timed(bounds, book, groups[0], extra=extra)
            self.assertLessEqual(low, high)
            told = self.timed(points, book, groups[:1], extra=extra)
            self.assertEqual((told[0], told[-1], len(told)), ((low,), (high,), high - low + 1))
            self.timed(points, book, groups, extra=extra)
        self.assertEqual(self.timed(bounds, book, groups[0], extra=1000), (0, 500))

    def test_a_heavy_form(self):
        form = heavy_form()
        book = self.random_book(random.Random(2), Issue.made(form, 5), 200)
        low = Group.of(form, ("sum", ("aa", "ab"), 0, 30))
        told = self.timed(bounds, book, low)
        self.assertLess(told[0], told[1])
        self.assertEqual(self.timed(points, book, [low])[0], (told[0],))
        self.assertEqual(self.timed(points, book, [low, ~low])[0], (told[0], 200 - told[0]))

    def test_open_groups_with_too_many_rests(self):
        names = [first + second for first in "ghij" for second in "ghijklmnop"]
        items = [ask("a", ("count", 0, 62))] + [ask(name) for name in names[:38]]
        form = Form(items + [ask("z", ("count", 0, 62)), ("check", "c", ("sum", ("a", "z"), 0, 62))])
        told = [entry(at, 7, "note", name, 0) for at, name in enumerate(names[:38])]
        book = Book(Issue.made(form), told)
        self.assert_error(TooMany("rest"), open_group, book, 7, extra=4)
        some = Group.every(form).having(names[3], 1)
        self.assertEqual([bounds(book, some, extra=extra) for extra in (0, 1, 2, 4)], [(0, 0), (0, 0), (0, 1), (0, 1)])
        both = some.having(names[4], 1)
        self.assertEqual([points(book, [some, both], extra=extra) for extra in (2, 4)], [((0, 0), (1, 0)), ((0, 0), (1, 0), (1, 1))])


if __name__ == "__main__":
    unittest.main()
