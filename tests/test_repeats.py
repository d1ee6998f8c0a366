"""Promises k57 and k96, points [8] to [10], [23], [39], [40], [42], [43]: forms that ask again."""

import itertools
import time
import unittest

from slipleaf.arrows import row_count
from slipleaf.bearing import unseen
from slipleaf.errors import BadNumber, BadOrder, TooMany
from slipleaf.forms import Form
from slipleaf.groups import Group
from slipleaf.issues import Issue
from slipleaf.reading import read_form
from slipleaf.readings import Reading
from slipleaf.repeats import fewest_repeats, repeated
from slipleaf.slips import slips_on
from slipleaf.writing import write_form
from tests.helper import ALWAYS, ODD_THINGS, LeafCase, ask
from tests.oracle import lawful_records, random_form, seeded

RENT = read_form("ask own pick 2\nask rent count 0 2 when is own 1")
NAMES = [first + second for first in "ghij" for second in "ghijklmnop"]


def new_names(form):
    """Tell the new names, in order, that are free."""
    taken = set(form.names) | {check[0] for check in form.checks}
    return (name for name in (f"r{a}{b}" for a in "abcdefghijklmnopqrstuvwxyz" for b in "12345") if name not in taken)


def repeated_by_words(form, times):
    """Return the repeated form, as the words of [43] tell it."""
    items, fresh = list(form.flat), new_names(form)
    for name, many in times:
        items += [("twice", name, next(fresh)) for _ in range(many)]
    return Form(items)


def fewest_by_words(form, wish, rows):
    """Return the fewest repeats, as the words of [43] tell them."""
    for told in sorted(itertools.product(range(3), repeat=len(form)), key=lambda told: (sum(told), told)):
        pairs = tuple((name, many) for name, many in zip(form.names, told) if many)
        try:
            issue = Issue.made(repeated_by_words(form, pairs), rows)
        except TooMany:
            continue
        if len(lawful_records(issue.form)) < 2 or unseen(issue)[0] >= wish:
            return pairs
    return None


class Repeated(LeafCase):
    def test_by_hand(self):
        form = repeated(RENT, [("own", 1), ("rent", 2)])
        self.assertEqual(
            form.source, RENT.flat + (("twice", "own", "ra1"), ("twice", "rent", "ra2"), ("twice", "rent", "ra3"))
        )
        self.assertEqual(form.names, ("own", "rent", "ra1", "ra2", "ra3"))
        self.assertEqual([check[0] for check in form.checks], ["ra1", "ra2", "ra3"])
        self.assertEqual(repeated(RENT, ()), RENT)
        self.assertEqual(repeated(RENT, ()).source, RENT.flat)
        part = read_form("part always\nask a pick 2\ncheck c is a 0\nend")
        self.assertEqual(
            write_form(repeated(part, (("a", 1),))), "ask a pick 2\ncheck c is a 0\ntwice a ra1",
        )

    def test_names_that_are_there(self):
        form = read_form("ask ra1 pick 2\ncheck ra3 is ra1 0\nask ra5 pick 2\nask b pick 2")
        self.assertEqual(repeated(form, [("ra1", 2), ("b", 2)]).names, ("ra1", "ra5", "b", "ra2", "ra4", "rb1", "rb2"))

    def test_by_the_words(self):
        for rng in seeded(150):
            form = random_form(rng)
            times = [(name, rng.randint(1, 2)) for name in form.names if rng.random() < 0.6]
            try:
                wanted = repeated_by_words(form, times)
            except TooMany as error:
                self.assert_error(error, repeated, form, times)
                continue
            made = repeated(form, rng.choice((times, tuple(times))))
            self.assertEqual((made, made.source), (wanted, wanted.source))
            # A repeat must be answered alike, so there are as many lawful records.
            self.assertEqual(Group.lawful(made).many(), len(lawful_records(form)))

    def test_bad_orders_go_ahead_of_bad_numbers(self):
        self.assert_error(BadOrder("x"), repeated, RENT, [("own", 0), ("x", 1)])
        self.assert_error(BadOrder("own"), repeated, RENT, [("rent", 1), ("own", 1)])
        self.assert_error(BadOrder("own"), repeated, RENT, [("own", 1), ("own", 1)])
        self.assert_error(BadOrder("rent"), repeated, RENT, [("own", 7), ("rent", 1), ("rent", 1), ("x", 1)])
        for times in (0, 3, -1, 10 ** 29, True, False, None, "1", 1.0):
            self.assert_error(BadNumber(times), repeated, RENT, [("own", times)])
            self.assert_error(BadNumber(times), repeated, RENT, [("own", 2), ("rent", times)])
        self.assert_error(BadNumber(3), repeated, RENT, [("own", 3), ("rent", 0)])

    def test_too_many(self):
        form = Form([ask(name) for name in NAMES])
        self.assertEqual(repeated(form, []), form)
        self.assert_error(TooMany("question"), repeated, form, [("gg", 1)])
        self.assert_error(TooMany("question"), repeated, form, [(name, 2) for name in NAMES])
        half = Form([ask(name) for name in NAMES[:20]])
        self.assertEqual(len(repeated(Form([ask("gg")] + [("check", "c" + name, ALWAYS) for name in NAMES[:19]]), [("gg", 1)])), 2)
        self.assert_error(TooMany("check"), repeated, Form([ask("gg")] + [("check", "c" + name, ALWAYS) for name in NAMES[:19]]), [("gg", 2)])
        # The questions are live up to their repeats at the end: 3 ** 7 < 4096 < 3 ** 8.
        self.assertEqual(repeated(half, [(name, 1) for name in NAMES[:6]]).weight_at(21), 3 ** 7)
        self.assert_error(TooMany("standing"), repeated, half, [(name, 1) for name in NAMES[:7]])
        # All names are taken that could be, and still it is the questions that are too many.
        taken = [f"r{letter}{digit}" for letter in "abcdefghijkl" for digit in "12345"]
        full = Form([ask(name) for name in taken[:40]] + [("check", name, ALWAYS) for name in taken[40:]])
        self.assert_error(TooMany("question"), repeated, full, [(name, 2) for name in taken[:40]])


class Fewest(LeafCase):
    def test_by_hand(self):
        self.assertEqual(fewest_repeats(RENT, 2), (("rent", 1),))
        self.assertEqual(fewest_repeats(RENT, 3), (("own", 1), ("rent", 2)))
        self.assertIsNone(fewest_repeats(RENT, 4))
        ticks = read_form("ask a tick 2\ncheck c is a 1 2")
        self.assertEqual([fewest_repeats(ticks, wish) for wish in (2, 3, 4)], [(), (("a", 1),), (("a", 1),)])
        for text in ("", "ask a pick 2\ncheck c is a 1", "check c not always", "ask a pick 2\ncheck c not asked a"):
            self.assertEqual([fewest_repeats(read_form(text), wish) for wish in (2, 3, 4)], [(), (), ()])

    def test_by_the_words(self):
        told = {}
        for rng in seeded(60):
            form = random_form(rng, rng.randint(0, 3))
            wish, rows = rng.randint(2, 4), rng.choice((1, 1, 2, 3, 400))
            if len(lawful_records(form)) <= 30:
                found = fewest_repeats(form, wish, rows=rows)
                self.assertEqual(found, fewest_by_words(form, wish, rows))
                told[found if found is None else sum(many for _, many in found)] = True
        self.assertLessEqual({None, 0, 1, 2, 3}, set(told))

    def test_what_they_promise_is_seen_in_readings(self):
        kept = 0
        for rng in seeded(80):
            form = random_form(rng, rng.randint(1, 3))
            wish, rows = rng.randint(2, 3), rng.choice((1, 2, 400))
            records = lawful_records(form)
            found = fewest_repeats(form, wish, rows=rows) if 2 <= len(records) <= 20 else None
            if found is None:
                continue
            issue = Issue.made(repeated(form, found), rows)
            records = list(Group.lawful(issue.form).records())
            for record in records:
                sheet = issue.right_sheet(record)
                reading = Reading(issue, sheet)
                # Whoever wrote this with less slips than wished is read right, and so the reading is sure.
                self.assertEqual((reading.fewest, reading.only), (0, record))
                self.assertEqual(list(reading.group(wish - 1).records()), [record])
                for other in records:
                    self.assertTrue(other == record or slips_on(issue, other, sheet) >= wish)
            kept += 1
        self.assertGreater(kept, 20)

    def test_forms_that_cannot_be_made_do_not_do(self):
        # With a repeat of a there stand a, b and this: 16 * 16 * 16 is just the most.
        for high, wanted in ((14, (("a", 1), ("b", 1))), (15, None)):
            text = f"ask a count 0 {high}\nask b count 0 14\ncheck c from a 0 1\ncheck d from b 0 1"
            self.assertEqual(fewest_repeats(read_form(text), 2), wanted)
        # The second time of a is not to be had, but b can be repeated.
        text = "ask a count 0 14\nask b count 0 14\nask e tick 4\ncheck c from a 7 7\ncheck d from b 0 1\ncheck f is e 7"
        self.assertEqual(fewest_repeats(read_form(text), 2), (("b", 1),))

    def test_issues_that_cannot_be_made_do_not_do(self):
        for between, rows in (("", 1 + 15 + 225 + 1), ("ask x pick 2\n", 1 + 15 + 225 + 225 + 1)):
            boxes = [f"( from c {k} {k} and has a {k} )" for k in range(4)]
            boxes += [f"( from c {k + 4} {k + 4} and has b {k} )" for k in range(4)]
            need = "( ( " + " or ".join(boxes[:4]) + " ) or ( " + " or ".join(boxes[4:]) + " ) )"
            form = read_form(
                f"ask a tick 4\ncheck a is a 7\nask b tick 4\ncheck b is b 7\n{between}"
                f"ask c count 0 7\ncheck c from c 0 1\nask d pick 2 when {need}"
            )
            self.assertEqual(row_count(form), rows)
            self.assertEqual(fewest_repeats(form, 2), None if between else (("c", 1), ("d", 1)))

    def test_numbers(self):
        for thing in (1, 5, 0, -1, 10 ** 29) + ODD_THINGS:
            with self.assertRaises(BadNumber) as caught:
                fewest_repeats(RENT, thing, rows=0)
            self.assertIs(caught.exception.number, thing)
        for thing in (0, 401, -1, 10 ** 29) + tuple(thing for thing in ODD_THINGS):
            with self.assertRaises(BadNumber) as caught:
                fewest_repeats(RENT, 2, rows=thing)
            self.assertIs(caught.exception.number, thing)
        six = read_form("\n".join(f"ask {name} pick 6" for name in "abcdef"))
        self.assert_error(BadNumber(5), fewest_repeats, six, 5)
        self.assert_error(BadNumber(0), fewest_repeats, six, 2, rows=0)

    def test_too_many(self):
        six = read_form("\n".join(f"ask {name} pick 6" for name in "abcdef"))
        self.assert_error(TooMany("question"), fewest_repeats, six, 2)
        five = read_form("\n".join(f"ask {name} pick 2" for name in "abcde"))
        self.assert_error(TooMany("record"), fewest_repeats, read_form("ask a count 0 60"), 2)
        begun = time.perf_counter()
        self.assertEqual(fewest_repeats(read_form("ask a count 0 59"), 2), (("a", 1),))
        self.assertEqual(fewest_repeats(five, 2), tuple((name, 1) for name in "abcde"))
        self.assertIsNone(fewest_repeats(five, 4))
        self.assertIsNone(fewest_repeats(read_form("ask a count 0 59"), 4))
        self.assertLess(time.perf_counter() - begun, 20)


if __name__ == "__main__":
    unittest.main()
