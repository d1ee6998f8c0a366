"""Promises k61, k64 and k86, points [18], [40], [44], [45], [47], [49]: lots, and asking again."""

import itertools
import random
import time
import unittest

from slipleaf.cases import Case
from slipleaf.errors import BadNumber, BadRecord, NoRecord, TooMany
from slipleaf.forms import Form
from slipleaf.groups import Group
from slipleaf.issues import Issue
from slipleaf.lots import ask_again, fewest_lot
from slipleaf.papers import Letter, Note
from slipleaf.reading import read_form
from tests.case_oracle import case_by_words, lot_by_words, made_paper, random_told
from tests.helper import ODD_THINGS, LeafCase, ask
from tests.makers import random_issue
from tests.oracle import all_records, lawful_records, random_form, seeded

RENT = read_form("ask own pick 2\nask rent count 0 2 when is own 1")
NAMES = [first + second for first in "ghij" for second in "ghijklmnop"]
FORTY = Form([ask(name) for name in NAMES])
WIDE = Form([ask(name, ("pick", 6)) for name in NAMES])


def records_of(columns):
    """Return the records with these values of the 40 questions."""
    return list(zip(*columns))


def weak_columns(rng, sizes):
    """Return 40 columns for 12 records, of which each tells just a few of them from the others."""
    few = [told for size in sizes for told in itertools.combinations(range(12), size)]
    rng.shuffle(few)
    return [[int(number in told) for number in range(12)] for told in (few * 4)[:40]]


class Lots(LeafCase):
    def test_by_hand(self):
        self.assertEqual(fewest_lot(RENT, [(0, None), (1, 0), (1, 2)]), ("rent",))
        self.assertEqual(fewest_lot(RENT, [(0, None), (1, 0)]), ("own",))
        self.assertEqual(fewest_lot(RENT, ((1, 0), (1, 1))), ("rent",))
        self.assertEqual(fewest_lot(RENT, [(1, 2)]), ())
        self.assertEqual(fewest_lot(Form([]), [()]), ())
        form = read_form("ask a pick 2\nask b pick 2\nask c pick 2")
        self.assertEqual(fewest_lot(form, [(0, 0, 0), (0, 1, 1), (1, 0, 1)]), ("a", "b"))
        self.assertEqual(fewest_lot(form, all_records(form)), ("a", "b", "c"))

    def test_by_the_words(self):
        sizes = {}
        for rng in seeded(300):
            form = random_form(rng, rng.randint(1, 6))
            records = all_records(form)
            told = rng.sample(records, rng.randint(1, min(12, len(records))))
            lot = fewest_lot(form, rng.choice((told, tuple(told))))
            self.assertEqual(lot, lot_by_words(form, told))
            sizes[len(lot)] = True
        self.assertEqual(sorted(sizes)[:5], [0, 1, 2, 3, 4])

    def test_by_the_words_with_weak_questions(self):
        for rng in seeded(40):
            many = rng.randint(3, 8)
            columns = [[int(rng.random() < 0.2) for _ in range(many)] for _ in range(9)]
            columns += [[int(number == at) for number in range(many)] for at in rng.sample(range(many), many - 1)]
            form = Form([ask(name) for name in NAMES[:len(columns)]])
            self.assertEqual(fewest_lot(form, records_of(columns)), lot_by_words(form, records_of(columns)))

    def test_twelve_records_of_forty_questions(self):
        rng = random.Random(5)
        for sizes in ((1,), (2,), (3,), (4,), (1, 2), (2, 3), (1, 2, 3)):
            records = records_of(weak_columns(rng, sizes))
            if len(set(records)) == 12:
                self.lot_in_time(FORTY, records)
        for many in (2, 6):
            self.lot_in_time(FORTY if many == 2 else WIDE, records_of([[rng.randrange(many) for _ in range(12)] for _ in NAMES]))
        ones = [tuple(int(at == number) for at in range(40)) for number in range(12)]
        self.assertEqual(self.lot_in_time(FORTY, ones), tuple(NAMES[:11]))

    def lot_in_time(self, form, records):
        """Return a fewest lot; fail if it takes too long, or does not tell the records apart."""
        begun = time.perf_counter()
        lot = fewest_lot(form, records)
        self.assertLess(time.perf_counter() - begun, 10)
        places = [form.place_of(name) for name in lot]
        self.assertEqual(len({tuple(record[place] for place in places) for record in records}), len(records))
        self.assertEqual(sorted(places), places)
        return lot


class Errors(LeafCase):
    def test_too_many_goes_first(self):
        self.assert_error(TooMany("record"), fewest_lot, RENT, [None] * 13)
        self.assert_error(TooMany("record"), fewest_lot, RENT, [(0, None)] * 13)
        self.assert_error(BadRecord(1), fewest_lot, RENT, [(0, None)] * 12)
        form = read_form("ask a count 0 99")
        self.assertEqual(fewest_lot(form, [(answer,) for answer in range(12)]), ("a",))
        self.assert_error(TooMany("record"), fewest_lot, form, [(answer,) for answer in range(13)])

    def test_bad_records(self):
        for thing in ODD_THINGS + ([1, 0], (1,), (0, 0), (1, None), (1, 3), (True, 0)):
            self.assert_error(BadRecord(0), fewest_lot, RENT, [thing])
            self.assert_error(BadRecord(2), fewest_lot, RENT, [(0, None), (1, 0), thing, (0, None)])
        self.assert_error(BadRecord(2), fewest_lot, RENT, [(0, None), (1, 0), (0, None), None])

    def test_no_record(self):
        self.assert_error(NoRecord(), fewest_lot, RENT, [])
        self.assert_error(NoRecord(), fewest_lot, RENT, ())

    def test_lawful_or_not(self):
        form = read_form("ask a pick 2\ncheck c is a 0")
        self.assertEqual(fewest_lot(form, [(0,), (1,)]), ("a",))


class AskingAgain(LeafCase):
    def test_by_hand(self):
        case = Case(Issue.made(RENT))
        self.assertEqual((ask_again(case), ask_again(case, 0), ask_again(case, extra=1000)), (("rent",),) * 3)
        case.put(Note(RENT, "own", 1, 3))
        self.assertEqual((ask_again(case), ask_again(case, 3)), (("rent",), ("rent",)))
        case.put(Note(RENT, "rent", 2))
        self.assertEqual((ask_again(case), ask_again(case, 2)), ((), ("rent",)))
        self.assertEqual(ask_again(Case(Issue.made(Form([])))), ())

    def test_by_the_words(self):
        asked, settled = 0, 0
        for rng in seeded(200):
            form = random_form(rng)
            issue, records = random_issue(rng, form), lawful_records(form)
            if not records:
                continue
            true = rng.choice(records)
            told = [random_told(rng, issue, true) for _ in range(rng.randint(0, 3))]
            case, extra = Case(issue, [made_paper(issue, parts) for parts in told]), rng.choice((0, 0, 1, 2))
            _, left = case_by_words(issue, told, extra)
            if len(left) > 12:
                self.assert_error(TooMany("record"), ask_again, case, extra)
                continue
            names = ask_again(case, extra)
            self.assertEqual(names, lot_by_words(form, left))
            asked += len(left) > 1
            # A letter about these questions tells the true record from all that were left.
            true = rng.choice(left)
            values = [true[form.place_of(name)] for name in names]
            letter = Letter(form, names, [-3 if value is None else value for value in values])
            self.assertEqual([record for record in left if letter.slips(record) == 0], [true])
            for _ in range(extra + 1):
                case.put(letter)
            self.assertIs(bool(case), True)
            self.assertEqual(case.group().first(), true)
            settled += 1
        self.assertGreater(asked, 40)
        self.assertGreater(settled, 100)

    def test_bad_numbers(self):
        case = Case(Issue.made(RENT))
        for extra in ODD_THINGS + (-1, 1001, "1", 10 ** 29):
            with self.assertRaises(BadNumber) as caught:
                ask_again(case, extra)
            self.assertIs(caught.exception.number, extra)

    def test_12_and_13_records(self):
        for many in (12, 13):
            form = read_form(f"ask a count 0 {many - 1}\nask b pick 2\ncheck c is b 0")
            case = Case(Issue.made(form))
            if many == 12:
                self.assertEqual(ask_again(case), ("a",))
            else:
                self.assert_error(TooMany("record"), ask_again, case)
                case.put(Note(form, "a", 3))
                self.assertEqual(ask_again(case, 1), ())
                self.assert_error(TooMany("record"), ask_again, case, 2)

    def test_however_large_the_group_is(self):
        # The group has more than 3,000 rests, or very many records.
        items = [ask("a", ("count", 0, 62))] + [ask(name) for name in NAMES[:38]]
        form = Form(items + [ask("z", ("count", 0, 62)), ("check", "c", ("sum", ("a", "z"), 0, 62))])
        case = Case(Issue.made(form), [Note(form, name, 0, 1) for name in NAMES[:38]])
        self.assert_error(TooMany("rest"), case.group, 2)
        begun = time.perf_counter()
        self.assert_error(TooMany("record"), ask_again, case, 2)
        self.assert_error(TooMany("record"), ask_again, Case(Issue.made(FORTY)))
        self.assert_error(TooMany("record"), ask_again, case, 1000)
        self.assertLess(time.perf_counter() - begun, 10)
        self.assertEqual(Group.lawful(FORTY).many(), 2 ** 40)
        few = Case(Issue.made(FORTY), [Letter(FORTY, NAMES, (0,) * 40)])
        self.assertEqual(ask_again(few), ())
        self.assert_error(TooMany("record"), ask_again, few, 1)
        three = Case(Issue.made(FORTY), [Letter(FORTY, NAMES[:-3], (0,) * 37)])
        self.assertEqual(ask_again(three), tuple(NAMES[-3:]))


if __name__ == "__main__":
    unittest.main()
