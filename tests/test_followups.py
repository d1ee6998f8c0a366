"""Promises k71 and k72, points [54], [55]: follow-ups of groups."""

import time
import unittest

from slipleaf.errors import Ended, NoRecord, Stray
from slipleaf.followups import FollowUp
from slipleaf.forms import Form
from slipleaf.groups import Group
from slipleaf.kinds import answers_of
from slipleaf.reading import read_form
from tests.helper import ODD_THINGS, LeafCase, ask
from tests.oracle import all_records, kinds_in, random_form, seeded
from tests.test_arrows import form_of_rests
from tests.test_readings import heavy_form

RENT = read_form("ask own pick 2\nask rent count 0 2 when is own 1")


def due_by_words(form, left):
    """Return the place of the first question at which the records that are left differ, or None."""
    for place in range(len(form)):
        if len({record[place] for record in left}) > 1:
            return place
    return None


class ByHand(LeafCase):
    def test_each_question(self):
        follow = FollowUp(Group.every(RENT))
        self.assertEqual((follow.form, follow.due, follow.given, follow.found()), (RENT, "own", (), None))
        self.assertEqual(follow.left(), Group.every(RENT))
        self.assertIsNone(follow.answer(1))
        self.assertEqual((follow.due, follow.given, follow.found()), ("rent", (("own", 1),), None))
        self.assertEqual(list(follow.left().records()), [(1, 0), (1, 1), (1, 2)])
        follow.answer(2)
        self.assertEqual((follow.due, follow.given, follow.found()), (None, (("own", 1), ("rent", 2)), (1, 2)))
        self.assertEqual(list(follow.left().records()), [(1, 2)])
        self.assert_error(Ended(), follow.answer, 2)
        self.assertIsNone(follow.back())
        self.assertEqual((follow.due, follow.given, follow.found()), ("rent", (("own", 1),), None))
        follow.back()
        self.assertEqual((follow.due, follow.given, follow.left()), ("own", (), Group.every(RENT)))
        self.assert_error(Ended(), follow.back)
        follow.answer(0)
        self.assertEqual((follow.due, follow.given, follow.found()), (None, (("own", 0),), (0, None)))

    def test_what_is_settled_is_filled_in(self):
        form = read_form("ask a pick 3\nask b pick 3\nask c pick 3\nask d pick 3")
        follow = FollowUp(Group.listed(form, [(1, 0, 2, 0), (1, 1, 2, 1), (1, 1, 0, 1)]))
        self.assertEqual(follow.due, "b")
        follow.answer(1)
        self.assertEqual((follow.due, follow.given), ("c", (("b", 1),)))
        follow.answer(0)
        self.assertEqual((follow.found(), follow.given), ((1, 1, 0, 1), (("b", 1), ("c", 0))))
        follow.back()
        follow.back()
        follow.answer(0)
        self.assertEqual((follow.found(), follow.given), ((1, 0, 2, 0), (("b", 0),)))
        follow.back()
        self.assertEqual((follow.due, follow.given), ("b", ()))

    def test_one_record(self):
        for group in (Group.listed(RENT, [(1, 2)]), Group.every(Form([]))):
            follow = FollowUp(group)
            self.assertEqual((follow.due, follow.given, follow.found(), follow.left()), (None, (), group.first(), group))
            self.assert_error(Ended(), follow.answer, 0)
            self.assert_error(Ended(), follow.answer, None)
            self.assert_error(Ended(), follow.back)


class ByTheWords(LeafCase):
    def test_random_groups(self):
        asked = 0
        for rng in seeded(250):
            form = random_form(rng, rng.randint(0, 5))
            records = all_records(form)
            told = sorted(rng.sample(range(len(records)), rng.randint(1, min(len(records), 15))))
            told = [records[number] for number in told]
            group, true = Group.listed(form, told), rng.choice(told)
            follow, left, given = FollowUp(group), told, []
            while True:
                place = due_by_words(form, left)
                self.assertEqual(follow.due, None if place is None else form.names[place])
                self.assertEqual(follow.given, tuple(given))
                self.assertEqual(follow.left(), Group.listed(form, left))
                self.assertEqual(follow.found(), left[0] if len(left) == 1 else None)
                if place is None:
                    break
                # The question is asked in all of those that are left, and two of them differ at it.
                self.assertNotIn(None, [record[place] for record in left])
                for value in answers_of(kinds_in(form)[form.names[place]]) + (-1, None, True, 99):
                    if value is True or value not in [record[place] for record in left]:
                        self.assert_error(Stray(form.names[place]), follow.answer, value)
                follow.answer(true[place])
                given.append((form.names[place], true[place]))
                left = [record for record in left if record[place] == true[place]]
                asked += 1
            self.assertEqual(follow.found(), true)
            for _ in given:
                follow.back()
            self.assertEqual((follow.left(), follow.given), (group, ()))
        self.assertGreater(asked, 300)

    def test_a_walk_is_a_follow_up_of_all_records(self):
        for rng in seeded(80):
            form = random_form(rng)
            record = rng.choice(all_records(form))
            follow = FollowUp(Group.every(form))
            while follow.due is not None:
                follow.answer(record[form.place_of(follow.due)])
            self.assertEqual(follow.found(), record)
            self.assertEqual(follow.given, tuple(pair for pair in zip(form.names, record) if pair[1] is not None))


class Errors(LeafCase):
    def test_no_record(self):
        self.assert_error(NoRecord(), FollowUp, Group.listed(RENT, []))
        self.assert_error(NoRecord(), FollowUp, Group.lawful(read_form("ask a pick 2\ncheck c not asked a")))

    def test_strays_change_nothing(self):
        follow = FollowUp(Group.listed(RENT, [(1, 0), (1, 2)]))
        for value in ODD_THINGS + (1, 3, -1, -3, "0", 10 ** 29):
            self.assert_error(Stray("rent"), follow.answer, value)
        self.assertEqual((follow.due, follow.given, follow.left().many()), ("rent", (), 2))


class Large(LeafCase):
    def test_very_many_records(self):
        begun = time.perf_counter()
        form = heavy_form()
        group = Group.lawful(form)
        true = group.nth(group.many() // 3)
        follow = FollowUp(group)
        while follow.due is not None:
            self.assertIn(true, follow.left())
            follow.answer(true[form.place_of(follow.due)])
        self.assertEqual((follow.found(), list(follow.left().records())), (true, [true]))
        self.assertLess(time.perf_counter() - begun, 15)

    def test_3000_rests(self):
        form = form_of_rests(0)
        follow = FollowUp(Group.every(form))
        self.assertEqual(follow.left().size, 3000)
        while follow.due is not None:
            follow.answer(0)
        self.assertEqual(follow.left().size, len(form) + 1)

    def test_forty_questions(self):
        names = [first + second for first in "ghij" for second in "ghijklmnop"]
        form = Form([ask(name, ("count", 0, 99)) for name in names])
        follow = FollowUp(Group.every(form))
        for number in range(40):
            follow.answer(number)
        self.assertEqual((follow.found(), len(follow.given)), (tuple(range(40)), 40))


if __name__ == "__main__":
    unittest.main()
