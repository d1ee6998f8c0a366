"""Promises k25, k29 and k93, points [1], [13], [21] and [22]: ends of booklets, and where they lead wrong."""

import random
import time
import unittest

from slipleaf.arrows import least_booklet
from slipleaf.booklets import Booklet
from slipleaf.errors import BadPerson, TooMany
from slipleaf.forms import Form
from slipleaf.judging import fault
from slipleaf.kinds import size_of
from slipleaf.reading import read_form
from tests.helper import LeafCase, ask
from tests.makers import changed_rows
from tests.oracle import random_form, seeded
from tests.paper_oracle import all_persons, fault_by_words, steps_of, walked
from tests.test_booklets import random_rows

RENT = read_form("ask own pick 2\nask rent count 0 2 when is own 1")
NAMES = [first + second for first in "abcde" for second in "abcdefgh"]
# Each question of 40 is always asked, so a booklet that asks one after the other leads right.
LONG = Form([ask(name) for name in NAMES])
IN_ORDER = [("ask", name, (number + 1,) * 2) for number, name in enumerate(NAMES, start=1)]


class Faults(LeafCase):
    def test_examples(self):
        for rows, wanted in (
            ([("ask", "own", (3, 2)), ("ask", "rent", (3, 3, 3))], None),
            ([("ask", "own", (2, 2)), ("ask", "rent", (3, 3, 3))], ((0,), 2)),
            ([("ask", "own", (3, 3)), ("ask", "rent", (3, 3, 3))], ((1,), 3)),
            ([("ask", "own", (2, 2))], ((1,), 2)),
            ([("ask", "rent", (2, 2, 2))], ((), 1)),
            ([("ask", "own", (2, 3)), ("ask", "own", (4, 4)), ("ask", "rent", (4, 4, 4))], ((0,), 2)),
            ([("ask", "own", (3, 2)), ("ask", "rent", (3, 3, 4)), ("look", "own", 4, (4, 4))], None),
            ([("ask", "own", (4, 2)), ("ask", "rent", (4, 4, 3)), ("ask", "rent", (4, 4, 4))], ((1, 2), 3)),
            ([], ((), 1)),
        ):
            self.assertEqual(fault(Booklet(RENT, rows)), wanted)

    def test_no_rows(self):
        self.assertIsNone(fault(Booklet(Form(()), [])))
        never = read_form("ask own pick 2 when not always")
        self.assertIsNone(fault(Booklet(never, [])))
        self.assertEqual(fault(Booklet(never, [("ask", "own", (2, 2))])), ((), 1))
        self.assertIsNone(fault(Booklet(never, [("look", "own", 2, (2, 2))])))

    def test_rows_that_look(self):
        looked = [("ask", "own", (2, 2)), ("look", "own", 2 + 1, (4, 3)), ("ask", "rent", (4, 4, 4))]
        self.assertIsNone(fault(Booklet(RENT, looked)))
        # Nobody has answered rent ahead of row 2, so all go to the other number.
        early = [("ask", "own", (2, 2)), ("look", "rent", 4, (3, 3, 3)), ("ask", "rent", (4, 4, 4))]
        self.assertEqual(fault(Booklet(RENT, early)), ((1,), 4))
        self.assertIsNone(fault(Booklet(Form(()), [])))

    def test_a_look_at_what_was_not_asked(self):
        form = read_form("ask a pick 2\nask b pick 2 when is a 1\nask c pick 2 when asked b")
        rows = [("ask", "a", (3, 2)), ("ask", "b", (3, 3)), ("look", "b", 5, (4, 4)), ("ask", "c", (5, 5))]
        self.assertIsNone(fault(Booklet(form, rows)))
        turned = rows[:2] + [("look", "b", 4, (4, 5)), ("ask", "c", (5, 5))]
        self.assertEqual(fault(Booklet(form, turned)), ((0,), 4))

    def test_fewest_answers_go_first_then_the_first_tuple(self):
        form = read_form("ask a pick 3\nask b pick 2 when is a 0 1\nask c pick 2")
        rows = [("ask", "a", (2, 2, 3)), ("ask", "b", (3, 4)), ("ask", "c", (4, 4))]
        self.assertEqual(fault(Booklet(form, rows)), ((0, 1), 4))
        self.assertEqual(fault(Booklet(form, [("ask", "a", (2, 2, 4))] + rows[1:])), ((2,), 4))
        last = [("ask", "a", (2, 2, 3)), ("ask", "b", (3, 3)), ("ask", "c", (4, 5)), ("ask", "c", (5, 5))]
        # With the answer 2 fewer questions are asked ahead of the end.
        self.assertEqual(fault(Booklet(form, last)), ((2, 0), 4))

    def test_the_first_tuple_wherever_the_crowds_part(self):
        form = read_form("ask a pick 2\nask b pick 2")
        rows = [("ask", "a", (2, 2)), ("ask", "b", (3, 4)), ("look", "a", 6, (6, 5)), ("ask", "b", (6, 6)), ("ask", "b", (6, 6))]
        # Both (0, 1) and (1, 0) are led wrong; the second is found by a look at the first answer.
        self.assertEqual(fault(Booklet(form, rows)), ((0, 1), 4))
        self.assertEqual(fault(Booklet(form, rows[:1] + [("ask", "b", (3, 6))] + rows[2:])), ((1, 0), 5))

    def test_against_all_persons(self):
        right, wrong = 0, 0
        for rng in seeded(400):
            form = random_form(rng)
            rows = changed_rows(rng, form, least_booklet(form).rows)
            if rng.random() < 0.2 and len(form):
                rows = random_rows(rng, form, rng.randint(0, 7))
            booklet = Booklet(form, rows)
            wanted = fault_by_words(booklet)
            self.assertEqual(fault(booklet), wanted)
            self.assertEqual(booklet, Booklet(form, rows))
            right, wrong = right + (wanted is None), wrong + (wanted is not None)
        self.assertGreater(min(right, wrong), 50)

    def test_answers_are_of_persons_who_come_there(self):
        for rng in seeded(60):
            form = random_form(rng, 4)
            booklet = Booklet(form, changed_rows(rng, form, least_booklet(form).rows))
            found = fault(booklet)
            if found is None:
                continue
            told = []
            for person in all_persons(form):
                walk = walked(form, person)[0]
                answers = tuple(person[form.place_of(name)] for name in walk[:len(found[0])])
                told.append(answers == found[0] and found[1] in booklet.way(person) + (booklet.end,))
            self.assertIn(True, told)


class LongBooklets(LeafCase):
    def timed(self, booklet):
        """Return the fault of a booklet, and fail if it takes too long."""
        begun = time.perf_counter()
        found = fault(booklet)
        self.assertLess(time.perf_counter() - begun, 10)
        return found

    def test_ways_of_400_rows(self):
        rng = random.Random(4)
        rows = random_rows(rng, LONG, 400)
        booklet = Booklet(LONG, rows)
        self.assertEqual((len(booklet), booklet.end), (400, 401))
        for _ in range(20):
            person = tuple(rng.randrange(2) for _ in NAMES)
            steps = steps_of(booklet, person)
            self.assertEqual(booklet.way(person), tuple(number for number, _ in steps))
            self.assertEqual(booklet.asked(person), tuple(name for _, name in steps if name is not None))
        self.assert_error(BadPerson(39), booklet.way, (0,) * 39 + (2,))
        self.assert_error(BadPerson(-1), booklet.asked, (0,) * 39)

    def test_looks_behind_all_answers(self):
        # Whatever these rows look at, they lead to the end.
        looks = [
            ("look", NAMES[at * 7 % 40], at + 42, (at + 42, min(at + 43, 401))) for at in range(360)
        ]
        self.assertIsNone(self.timed(Booklet(LONG, IN_ORDER + looks)))
        wrong = looks[:-1] + [("ask", "aa", (401, 401))]
        answers, number = self.timed(Booklet(LONG, IN_ORDER + wrong))
        self.assertEqual((len(answers), number), (40, 400))

    def test_looks_that_keep_the_way(self):
        rows = []
        for place, name in enumerate(NAMES):
            at = 10 * place + 1
            rows += [("look", other, at + 1 + k, (at + 1 + k,) * 2) for k, other in enumerate(NAMES[:9])]
            rows.append(("ask", name, (at + 10,) * 2))
        self.assertIsNone(self.timed(Booklet(LONG, rows)))
        rows[395] = ("look", "eh", 397, (397, 401))
        self.assertIsNone(self.timed(Booklet(LONG, rows)))
        rows[395] = ("look", "ed", 397, (397, 401))
        self.assertEqual(self.timed(Booklet(LONG, rows)), ((0,) * 35 + (1,) + (0,) * 3, 401))

    def test_many_nodes_at_once(self):
        needs = [
            ("or",) + tuple(("from", "x", low, low + size - 1) for low in range(size, 60, 2 * size)[:6])
            for size in (5, 6, 7, 8, 9)
        ]
        items = [ask("x", ("count", 0, 59)), ask("y", ("count", 0, 59))]
        items += [ask(name, ("count", 0, 99)) for name in NAMES[:30]]
        items += [ask("z" + "abcde"[at], ("pick", 2), need) for at, need in enumerate(needs)]
        form = Form(items)
        rows = [
            ("ask", name, (number + 1,) * size_of(kind)) for number, (name, kind, _) in enumerate(form.questions, start=1)
        ]
        self.assertEqual(self.timed(Booklet(form, rows)), ((0,) * 32, 33))
        self.assert_error(TooMany("row"), least_booklet, form)


if __name__ == "__main__":
    unittest.main()
