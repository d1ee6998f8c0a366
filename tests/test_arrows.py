"""Promises k25, k28, k30, k31, k81, k90 and k91, points [14], [16] to [18], [21] to [23]: least booklets."""

import itertools
import random
import time
import unittest

from slipleaf.arrows import due_rows, least_booklet, row_count
from slipleaf.booklets import Booklet
from slipleaf.compare import parting
from slipleaf.errors import BadRecord, TooMany
from slipleaf.forms import Form
from slipleaf.groups import Group
from slipleaf.judging import fault
from slipleaf.kinds import answers_of
from slipleaf.reading import read_form
from slipleaf.records import person_of, record_of
from slipleaf.walks import Walk
from slipleaf.writing import write_items
from tests.helper import ODD_THINGS, LeafCase, ask
from tests.makers import changed_rows
from tests.oracle import all_records, lawful_records, random_form, seeded
from tests.paper_oracle import all_persons, due_by_words, needed_rows, walked

RENT = read_form("ask own pick 2\nask rent count 0 2 when is own 1")
EMPTY = Form(())


def front_names(many):
    """Return so many names that no other form here has."""
    return ["f" + "abcdefghij"[at % 10] + "klmn"[at // 10] for at in range(many)]


def form_of_rows(front):
    """Return a form whose least booklet has 398 rows, and one more for each question put in front."""
    items = [ask(name) for name in front_names(front)] + [ask("x", ("count", 0, 43))]
    items += [ask("m" + letter) for letter in "abcdefgh"]
    items += [ask("y", ("count", 0, 43)), ask("z", ("pick", 2), ("same", "x", "y"))]
    return Form(items)


def has_bit(name, bit, many):
    """Return the condition that a count from 0 to many - 1 has this bit."""
    step = 1 << bit
    spans = [("from", name, low, min(low + step, many) - 1) for low in range(step, many, 2 * step)]
    while len(spans) > 1:
        rows = [spans[at:at + 6] for at in range(0, len(spans), 6)]
        spans = [("or",) + tuple(row) if len(row) > 1 else row[0] for row in rows]
    return spans[0]


def form_of_rests(front):
    """Return a form with 3,000 rests, and one more for each question put in front."""
    items = [ask(name) for name in front_names(front)] + [ask("x", ("count", 0, 7))]
    items += [ask("l" + letter) for letter in "abcdef"] + [ask("y", ("count", 0, 15))]
    items += [ask("m" + first + second) for first in "abc" for second in "abcdefg"]
    items += [ask("y" + "abcd"[bit], ("pick", 2), has_bit("y", bit, 16)) for bit in (3, 2, 1, 0)]
    return Form(items + [ask("x" + "abc"[bit], ("pick", 2), has_bit("x", bit, 8)) for bit in (2, 1, 0)])


class Least(LeafCase):
    def test_examples(self):
        booklet = least_booklet(RENT)
        self.assertEqual(booklet.rows, (("ask", "own", (3, 2)), ("ask", "rent", (3, 3, 3))))
        self.assertEqual((booklet, row_count(RENT)), (Booklet(RENT, booklet.rows), 2))
        two = read_form("ask a pick 2\nask b pick 2\nask c pick 2 when is a 1")
        self.assertEqual(least_booklet(two).rows, (
            ("ask", "a", (2, 3)), ("ask", "b", (5, 5)), ("ask", "b", (4, 4)), ("ask", "c", (5, 5)),
        ))

    def test_no_rows(self):
        for form in (EMPTY, read_form("ask a pick 2 when not always"), read_form("check c not always")):
            self.assertEqual((least_booklet(form).rows, row_count(form)), ((), 0))
            self.assertIsNone(fault(least_booklet(form)))
        self.assertEqual(due_rows(least_booklet(EMPTY), ()), ())

    def test_leads_right_and_has_a_row_for_each_rest(self):
        for rng in seeded(150):
            form = random_form(rng)
            booklet = least_booklet(form)
            self.assertIsNone(fault(booklet))
            self.assertEqual(len(booklet), needed_rows(form))
            self.assertEqual(row_count(form), len(booklet))
            self.assertEqual((booklet.form, booklet.first_look()), (form, 0))

    def test_rows_are_the_rests_that_ask(self):
        for rng in seeded(60):
            form = random_form(rng, 5)
            table = Group.every(form).table
            rows, numbers = [], {}
            for place, rests in enumerate(table):
                for number, moves in enumerate(rests):
                    if moves and moves[0][0] is not None:
                        rows.append((place, number))
                        numbers[(place, number)] = len(rows)
            booklet = least_booklet(form)
            for (place, number), (word, name, arrows) in zip(rows, booklet.rows, strict=True):
                self.assertEqual((word, name), ("ask", form.names[place]))
                self.assertEqual(tuple(value for value, _ in table[place][number]), answers_of(form.kind_of(name)))
                for (_, lead), arrow in zip(table[place][number], arrows, strict=True):
                    at = place + 1
                    while at < len(form) and (at, lead) not in numbers:
                        lead, at = table[at][lead][0][1], at + 1
                    self.assertEqual(arrow, numbers.get((at, lead), len(rows) + 1))

    def test_checks_change_nothing(self):
        for rng in seeded(40):
            form = random_form(rng)
            bare = Form([("ask",) + question for question in form.questions])
            self.assertEqual(least_booklet(form).rows, least_booklet(bare).rows)
            self.assertEqual(row_count(form), row_count(bare))
            self.assertNotEqual(bool(form.checks), least_booklet(form) == least_booklet(bare))

    def test_no_booklet_with_fewer_rows_leads_right(self):
        for text in (
            "ask a pick 2\nask b pick 2 when is a 1", "ask a pick 2\nask b pick 2",
            "ask a pick 2\nask b pick 2 when is a 0\nask c pick 2 when is a 1",
            "ask a tick 2\nask b pick 2 when has a 1",
            "ask a pick 2\nask b pick 2\nask c pick 2 when same a b",
        ):
            form = read_form(text)
            many = len(least_booklet(form))
            self.assertLess(many, 5)
            for fewer in range(min(many, 4)):
                for rows in self.all_rows(form, fewer):
                    self.assertIsNotNone(fault(Booklet(form, rows)))

    def all_rows(self, form, many):
        """Return all rows that ask, so many in a booklet, from just the first and the last of all arrows."""
        choices = []
        for number in range(1, many + 1):
            ends = range(number + 1, many + 2)
            choices.append([
                ("ask", name, arrows) for name, kind, _ in form.questions
                for arrows in itertools.product(ends, repeat=len(answers_of(kind)))
            ])
        return itertools.product(*choices)


class Bounds(LeafCase):
    def test_just_above_400_rows(self):
        self.assertEqual((row_count(form_of_rows(2)), len(least_booklet(form_of_rows(2)))), (400, 400))
        self.assertIsNone(fault(least_booklet(form_of_rows(2))))
        self.assertEqual(row_count(form_of_rows(3)), 401)
        self.assert_error(TooMany("row"), least_booklet, form_of_rows(3))

    def test_just_above_3000_rests(self):
        self.assertEqual(Group.every(form_of_rests(0)).size, 3000)
        self.assertEqual(row_count(form_of_rests(0)), 1 + 6 * 8 + 8 + 21 * 128 + 127)
        self.assert_error(TooMany("row"), least_booklet, form_of_rests(0))
        for call in (row_count, least_booklet, Group.every):
            self.assert_error(TooMany("rest"), call, form_of_rests(1))

    def test_very_many_records(self):
        begun = time.perf_counter()
        form = Form([ask(first + second, ("count", 0, 99)) for first in "abcde" for second in "abcdefgh"])
        self.assertEqual(len(least_booklet(form)), 40)
        self.assertIsNone(fault(least_booklet(form)))
        self.assertLess(time.perf_counter() - begun, 10)


class Due(LeafCase):
    def test_due_rows(self):
        booklet = Booklet(RENT, [
            ("look", "own", 2, (2, 5)), ("ask", "own", (5, 3)), ("look", "own", 5, (4, 4)), ("ask", "rent", (5, 5, 5)),
        ])
        self.assertEqual(due_rows(booklet, (0, None)), (2,))
        self.assertEqual(due_rows(booklet, (1, 2)), (2, 4))
        for rng in seeded(60):
            form = random_form(rng)
            changed = Booklet(form, changed_rows(rng, form, least_booklet(form).rows))
            for record in all_records(form)[:30]:
                self.assertEqual(due_rows(changed, record), tuple(due_by_words(changed, record)))

    def test_the_person_has_the_least_answers_elsewhere(self):
        form = read_form("ask a pick 2\nask b count 3 5 when is a 1\nask c pick 2")
        # Whoever is asked b wrongly answers 3, the least answer.
        booklet = Booklet(form, [("ask", "a", (2, 2)), ("ask", "b", (3, 4, 4)), ("ask", "c", (4, 4))])
        self.assertEqual(due_rows(booklet, (0, None, 1)), (1, 2, 3))
        self.assertEqual(due_rows(booklet, (1, 5, 1)), (1, 2))

    def test_no_record(self):
        booklet = least_booklet(RENT)
        for thing in ODD_THINGS + ((1, None), (0, 0), (0,), (1, 3), [0, None], (True, 0), (0, None, None)):
            self.assert_error(BadRecord(0), due_rows, booklet, thing)


class Across(LeafCase):
    def test_walks_and_least_booklets_ask_the_same(self):
        for rng in seeded(60):
            form = random_form(rng)
            booklet = least_booklet(form)
            for person in rng.sample(all_persons(form), min(10, len(all_persons(form)))):
                walk = Walk(form)
                while walk.due is not None:
                    walk.answer(person[form.place_of(walk.due)])
                asked = tuple(name for name, _ in walk.given)
                self.assertEqual(booklet.asked(person), asked)
                self.assertEqual(asked, tuple(walked(form, person)[0]))
                self.assertEqual(walk.so_far, record_of(form, person))
                self.assertEqual(due_rows(booklet, walk.so_far), booklet.way(person_of(form, walk.so_far)))

    def test_a_form_written_and_read_and_a_third_one_near_it(self):
        for rng in seeded(60):
            form = random_form(rng, 4)
            again = read_form(write_items(form.flat))
            self.assertEqual((again, parting(form, again)), (form, None))
            self.assertEqual(Group.lawful(form), Group.lawful(again))
            self.assertEqual(least_booklet(form), least_booklet(again))
            questions = list(form.questions)
            at = rng.randrange(4)
            questions[at] = questions[at][:2] + (("always",),)
            near = Form([("ask",) + question for question in questions] + [
                ("check", name, condition) for name, _, condition in form.checks[1:]
            ])
            told = parting(form, near)
            self.assertEqual(all_records(form) == all_records(near), told is None or told[0] == "checks")
            # Alike in what they ask, they have the same rows, whatever their checks.
            self.assertEqual(least_booklet(form).rows == least_booklet(near).rows, told is None or told[0] == "checks")
            alike = lawful_records(form) == lawful_records(near)
            self.assertEqual(Group.lawful(form).table == Group.lawful(near).table, alike)
            if told is None:
                self.assertTrue(alike)
                self.assertIsNone(fault(Booklet(form, least_booklet(near).rows)))
            if told is not None and told[0] == "asks":
                self.assertIsNotNone(fault(Booklet(form, least_booklet(near).rows)))

    def test_the_same_with_members(self):
        form = read_form(
            "ask kids count 0 3\neach kids\nask age count 0 17\nask school pick 2 when from age 6 17\nend\nask pets pick 2"
        )
        booklet = least_booklet(form)
        self.assertIsNone(fault(booklet))
        rng = random.Random(1)
        for _ in range(50):
            person = tuple(rng.choice(answers_of(kind)) for _, kind, _ in form.questions)
            self.assertEqual(list(booklet.asked(person)), walked(form, person)[0])


if __name__ == "__main__":
    unittest.main()
