"""Promises k13 and k16, points [13] to [15]: walks forwards and back, and what all of them give."""

import random
import unittest

from slipleaf.errors import BadAnswer, Ended
from slipleaf.forms import Form
from slipleaf.kinds import answers_of
from slipleaf.reading import read_form
from slipleaf.records import failing_checks, record_of
from slipleaf.walks import Walk
from tests.helper import ODD_THINGS, LeafCase
from tests.oracle import all_records, failing, next_asked, random_form, seeded, values_of

HOUSE = read_form("""
check early always
ask own pick 3
ask pets tick 2 when is own 1
check some asked pets
ask kids count 1 3 when ( has pets 1 or is own 2 )
ask rent pick 2 when is own 0
check low not is own 2
""")
EMPTY = Form(())
NEVER = read_form("check no not always")


def walked(form, answers):
    """Return a walk through a form behind these answers."""
    walk = Walk(form)
    for answer in answers:
        walk.answer(answer)
    return walk


def told(walk):
    """Return all that can be seen of a walk."""
    return walk.due, walk.given, walk.so_far, walk.failing()


def all_walks(walk):
    """Yield the values of all walks that go on from here; the walk itself is back here behind it."""
    if walk.due is None:
        yield walk.so_far
        return
    for answer in answers_of(walk.form.kind_of(walk.due)):
        walk.answer(answer)
        yield from all_walks(walk)
        walk.back()


class Steps(LeafCase):
    def test_forwards(self):
        walk = Walk(HOUSE)
        self.assertEqual(told(walk), ("own", (), (), ()))
        self.assertIsNone(walk.answer(1))
        self.assertEqual(told(walk), ("pets", (("own", 1),), (1,), ()))
        walk.answer(2)
        self.assertEqual(told(walk), ("kids", (("own", 1), ("pets", 2)), (1, 2), ()))
        walk.answer(3)
        self.assertEqual(told(walk), (None, (("own", 1), ("pets", 2), ("kids", 3)), (1, 2, 3, None), ()))

    def test_over_what_is_not_asked(self):
        self.assertEqual(told(walked(HOUSE, (0,))), ("rent", (("own", 0),), (0, None, None), ("some",)))
        self.assertEqual(told(walked(HOUSE, (2,))), ("kids", (("own", 2),), (2, None), ("some",)))
        self.assertEqual(told(walked(HOUSE, (1, 1))), (None, (("own", 1), ("pets", 1)), (1, 1, None, None), ()))
        form = read_form("ask a pick 2 when not always\nask b pick 2\nask c pick 2 when asked a")
        self.assertEqual(told(Walk(form)), ("b", (), (None,), ()))
        self.assertEqual(told(walked(form, (0,))), (None, (("b", 0),), (None, 0, None), ()))

    def test_failing_looks_no_further_than_the_walk(self):
        walk = walked(HOUSE, (2, 1))
        self.assertEqual(walk.failing(), ("some", "low"))
        walk.back()
        self.assertEqual(walk.failing(), ("some",))
        walk.back()
        self.assertEqual(walk.failing(), ())
        form = read_form(
            "check x not always\nask a pick 2\ncheck z is a 0\ncheck y is a 0\nask b pick 2\ncheck w not always"
        )
        self.assertEqual(Walk(form).failing(), ("x",))
        self.assertEqual(walked(form, (1,)).failing(), ("x", "z", "y"))
        self.assertEqual(walked(form, (0,)).failing(), ("x",))
        self.assertEqual(walked(form, (0, 0)).failing(), ("x", "w"))

    def test_checks_do_not_change_what_is_asked(self):
        form = read_form("check x not always\nask a pick 2\ncheck y not always\nask b pick 2")
        self.assertEqual(walked(form, (0, 0)).given, (("a", 0), ("b", 0)))

    def test_back(self):
        walk = walked(HOUSE, (0, 1))
        self.assertIsNone(walk.back())
        self.assertEqual(told(walk), told(walked(HOUSE, (0,))))
        walk.back()
        self.assertEqual(told(walk), told(Walk(HOUSE)))
        walk.answer(1)
        walk.answer(1)
        self.assertEqual(walk.so_far, (1, 1, None, None))
        walk.back()
        self.assertEqual(told(walk), told(walked(HOUSE, (1,))))
        walk.answer(2)
        self.assertEqual(walk.due, "kids")

    def test_nothing_is_asked(self):
        for form in (EMPTY, NEVER, read_form("ask a pick 2 when not always")):
            walk = Walk(form)
            self.assertEqual((walk.due, walk.given, walk.so_far), (None, (), (None,) * len(form)))
            self.assert_error(Ended(), walk.answer, 0)
            self.assert_error(Ended(), walk.back)
        self.assertEqual(Walk(NEVER).failing(), ("no",))

    def test_kinds_of_what_is_told(self):
        walk = walked(HOUSE, (0,))
        for thing in told(walk)[1:]:
            self.assertIs(type(thing), tuple)


class Errors(LeafCase):
    def test_bad_answer(self):
        walk = walked(HOUSE, (1,))
        before = told(walk)
        for thing in (*ODD_THINGS, 0, 4, -1, -2, 2.0, "2", [2], (2,), False):
            if type(thing) is int and 1 <= thing <= 3:
                continue
            with self.subTest(repr(thing)[:60]):
                self.assert_error(BadAnswer("pets"), walk.answer, thing)
                self.assertEqual(told(walk), before)
        walk.answer(2)
        for thing in (0, 4, True):
            self.assert_error(BadAnswer("kids"), walk.answer, thing)
        self.assert_error(BadAnswer("own"), Walk(HOUSE).answer, 3)

    def test_ended(self):
        walk = walked(HOUSE, (1, 1))
        before = told(walk)
        for thing in (0, 1, None, "no"):
            self.assert_error(Ended(), walk.answer, thing)
        self.assertEqual(told(walk), before)
        self.assert_error(Ended(), Walk(HOUSE).back)
        walk.back()
        walk.back()
        self.assert_error(Ended(), walk.back)
        self.assertEqual(told(walk), told(Walk(HOUSE)))


class Copies(LeafCase):
    def test_copy_goes_its_own_way(self):
        walk = walked(HOUSE, (1,))
        other = walk.copy()
        self.assertIs(type(other), Walk)
        self.assertEqual(other, walk)
        other.answer(2)
        self.assertEqual(told(walk), told(walked(HOUSE, (1,))))
        walk.back()
        self.assertEqual(told(other), told(walked(HOUSE, (1, 2))))
        self.assertNotEqual(other, walk)

    def test_equal(self):
        self.assertEqual(Walk(HOUSE), Walk(Form(HOUSE.flat)))
        self.assertEqual(walked(HOUSE, (0,)), walked(Form(HOUSE.flat), (0,)))
        self.assertNotEqual(walked(HOUSE, (0,)), walked(HOUSE, (1,)))
        self.assertNotEqual(walked(HOUSE, (0,)), Walk(HOUSE))
        self.assertNotEqual(Walk(EMPTY), Walk(NEVER))
        self.assertEqual(Walk(EMPTY), Walk(EMPTY))
        self.assertNotEqual(walked(read_form("ask a pick 2"), (0,)), walked(read_form("ask a pick 3"), (0,)))
        for thing in (None, (), 0, HOUSE, (("own", 0),)):
            self.assertIs(walked(HOUSE, (0,)) == thing, False)


class AllWalks(LeafCase):
    def test_all_records_each_once_in_order(self):
        for rng in seeded(60):
            form = random_form(rng)
            found = list(all_walks(Walk(form)))
            self.assertEqual(found, sorted(all_records(form)))
            self.assertEqual(len(set(found)), len(found))
        self.assertEqual(list(all_walks(Walk(EMPTY))), [()])

    def test_persons_walk_to_their_records(self):
        for rng in seeded(60):
            form = random_form(rng)
            person = tuple(rng.choice(answers_of(kind)) for _, kind, _ in form.questions)
            walk = Walk(form)
            while walk.due is not None:
                self.assertEqual((walk.due, walk.so_far), next_asked(form, walk.so_far))
                walk.answer(person[form.place_of(walk.due)])
                self.assertEqual(walk.given[-1][1], person[form.place_of(walk.given[-1][0])])
            self.assertEqual(walk.so_far, record_of(form, person))
            self.assertEqual(walk.failing(), failing_checks(form, walk.so_far))
            given = tuple((name, value) for name, value in zip(form.names, walk.so_far) if value is not None)
            self.assertEqual(walk.given, given)

    def test_random_steps(self):
        for seed in range(60):
            rng = random.Random(seed)
            form = random_form(rng, 5)
            walk, answers = Walk(form), []
            for _ in range(30):
                if walk.due is not None and rng.random() < 0.6:
                    answers.append(rng.choice(answers_of(form.kind_of(walk.due))))
                    walk.answer(answers[-1])
                elif answers:
                    answers.pop()
                    walk.back()
                self.assertEqual(walk, walked(form, answers))
                self.assertEqual(told(walk), told(walked(form, answers)))
                ahead = [name for name, place, _ in form.checks if place <= len(walk.so_far)]
                fails = failing(form, walk.so_far)
                self.assertEqual(walk.failing(), tuple(name for name in ahead if name in fails))
                told_all = {**dict.fromkeys(form.names[:len(walk.so_far)]), **dict(walk.given)}
                self.assertEqual(values_of(form, walk.so_far), told_all)


if __name__ == "__main__":
    unittest.main()
