"""Promises k69, k70, k87 and k98, points [13], [14], [18], [50] to [55]: records carried to a new form."""

import itertools
import time
import unittest

from slipleaf.carrying import carried, fewest_forgotten
from slipleaf.crowds import crowd_behind, crowd_of
from slipleaf.editions import Edition
from slipleaf.errors import BadRecord, NoRecord, TooMany, Unknown
from slipleaf.followups import FollowUp
from slipleaf.forms import Form
from slipleaf.groups import Group
from slipleaf.kinds import answers_of
from slipleaf.reading import read_form
from slipleaf.records import is_lawful, record_of
from tests.helper import ALWAYS, ODD_THINGS, LeafCase, ask
from tests.oracle import all_records, failing, kinds_in, lawful_records, random_condition, seeded, table_by_words
from tests.paper_oracle import all_persons, walked
from tests.step_oracle import easy_form, linked_by_words, random_step, step_by_words
from tests.test_editions import random_edition
from tests.test_readings import heavy_form

RENT = read_form("ask own pick 2\nask rent count 0 2 when is own 1")
NAMES = [first + second for first in "ghij" for second in "ghijklmnop"]


def persons_of(form, record, forgotten=()):
    """Return the list of all persons for whom a record stands when some questions are forgotten."""
    return [
        person for person in all_persons(form)
        if all(value in (None, answer) or name in forgotten for name, value, answer in zip(form.names, record, person))
    ]


def persons_behind(edition, persons):
    """Return the set of the persons who are linked to some persons, step by step."""
    form, persons = edition.old, set(persons)
    for step in edition.steps:
        new = step_by_words(form, step)
        persons = {other for person in persons for other in linked_by_words(form, step, person, new)}
        form = new
    return persons


def carried_by_words(edition, record, forgotten=()):
    """Return the list of the records to which a record is carried, as the words of [52] tell it, in order."""
    behind = {walked(edition.new, person)[1] for person in persons_behind(edition, persons_of(edition.old, record, forgotten))}
    return [record for record in all_records(edition.new) if record in behind and not failing(edition.new, record)]


def forgotten_by_words(edition, record):
    """Return the fewest forgotten questions, as the words of [53] tell them, or None."""
    asked = [name for name, value in zip(edition.old.names, record) if value is not None]
    for many in range(len(asked) + 1):
        for names in itertools.combinations(asked, many):
            if carried_by_words(edition, record, names):
                return names
    return None


def small_edition(rng, steps):
    """Return an edition of a small form, of which no form has very many persons."""
    while True:
        edition = random_edition(rng, easy_form(rng, rng.randint(1, 3)), rng.randint(0, steps))
        sizes = [len(form) <= 5 and len(all_persons(form)) <= 1500 for form in edition.stages]
        if all(sizes):
            return edition


class ByHand(LeafCase):
    def test_example(self):
        edition = Edition(RENT, [("split", "own", 1, 2)])
        self.assertEqual(list(carried(edition, (1, 2)).records()), [(1, 2), (2, 2)])
        self.assertEqual(carried(edition, (1, 2)).form, edition.new)
        self.assertEqual(list(carried(edition, (0, None)).records()), [(0, None)])
        self.assertEqual(list(carried(Edition(RENT), (1, 2)).records()), [(1, 2)])

    def test_counts_that_were_not_asked(self):
        # The words of [52]: a count from 0 to 5 gets the bounds 3 to 9.
        form = read_form("ask a pick 2\nask b count 0 5 when is a 1")
        edition = Edition(form, [("bound", "b", 3, 9), ("need", "b", ALWAYS)])
        self.assertEqual(list(carried(edition, (0, None)).records()), [(0, 3), (0, 4), (0, 5)])
        self.assertEqual(list(carried(edition, (1, 4)).records()), [(1, 4)])
        self.assertFalse(carried(edition, (1, 2)))
        self.assertEqual(list(carried(edition, (1, 2), forgotten=["b"]).records()), [(1, 3), (1, 4), (1, 5)])
        self.assertEqual((fewest_forgotten(edition, (1, 2)), fewest_forgotten(edition, (1, 3))), (("b",), ()))
        # Nobody is linked where nothing is left between the bounds.
        apart = Edition(form, [("bound", "b", 6, 9), ("need", "b", ("is", "a", (1,)))])
        self.assertFalse(carried(apart, (0, None)))
        self.assert_error(NoRecord(), fewest_forgotten, apart, (0, None))
        self.assert_error(NoRecord(), fewest_forgotten, apart, (1, 3))

    def test_bounds_there_and_back(self):
        form = read_form("ask b count 0 9")
        edition = Edition(form, [("bound", "b", 3, 5), ("bound", "b", 0, 99)])
        self.assertEqual([carried(edition, (answer,)).many() for answer in range(10)], [0, 0, 0, 1, 1, 1, 0, 0, 0, 0])
        self.assertEqual(carried(edition, (0,), forgotten=("b",)).told("b"), (3, 4, 5))

    def test_dropped_and_added(self):
        form = read_form("ask a pick 2\nask b pick 2")
        edition = Edition(form, [("drop", "a"), ("add", 0, "a", ("pick", 2), ALWAYS)])
        self.assertEqual(list(carried(edition, (1, 0)).records()), [(0, 0), (1, 0)])
        self.assertEqual(list(carried(Edition(read_form("ask a pick 2"), [("drop", "a")]), (1,)).records()), [()])

    def test_answers_that_hang_together(self):
        # A split answer that is divided: (0, 1), (1, 0) and (1, 1), but not (0, 0).
        form = read_form("ask a pick 2\nask z pick 2")
        edition = Edition(form, [("split", "a", 1, 3), ("divide", "a", "q", "r", 2)])
        self.assertEqual(list(carried(edition, (1, 0)).records()), [(0, 1, 0), (1, 0, 0), (1, 1, 0)])
        apart = edition.then(("move", ("r", "z", "q")))
        self.assertEqual(list(carried(apart, (1, 0)).records()), [(0, 0, 1), (1, 0, 0), (1, 0, 1)])
        self.assertEqual(list(carried(apart.then(("drop", "r")), (1, 0)).records()), [(0, 0), (0, 1)])
        again = edition.then(("pair", "q", "r", "a")).then(("join", "a", 1, 3))
        self.assertEqual((list(carried(again, (1, 0)).records()), list(carried(again, (0, 1)).records())), ([(1, 0)], [(0, 1)]))
        self.assertEqual(again.new, form)
        # Where q is not asked any more, it still hangs together with r.
        unasked = edition.then(("need", "q", ("not", ALWAYS))).then(("check", "c", ("is", "r", (0,))))
        self.assertEqual(list(carried(unasked, (1, 0)).records()), [(None, 0, 0)])

    def test_checks_of_the_new_form_alone(self):
        form = read_form("ask a pick 3\ncheck c is a 0")
        edition = Edition(form, [("uncheck", "c"), ("check", "d", ("is", "a", (1, 2)))])
        self.assertEqual([carried(edition, (answer,)).many() for answer in range(3)], [0, 1, 1])
        self.assertEqual(list(carried(edition, (0,), forgotten=("a", "a")).records()), [(1,), (2,)])
        self.assertEqual(fewest_forgotten(edition, (0,)), ("a",))

    def test_the_first_of_the_fewest(self):
        form = Form([ask(name, ("pick", 3)) for name in "abcd"])
        check = ("or", ("and", ("is", "b", (1,)), ("is", "d", (1,))), ("and", ("is", "a", (2,)), ("is", "c", (2,)), ("is", "d", (2,))))
        edition = Edition(form, [("check", "x", check)])
        self.assertEqual(fewest_forgotten(edition, (0, 0, 0, 0)), ("b", "d"))
        either = Edition(form, [("check", "x", ("or", ("and", ("is", "b", (1,)), ("is", "c", (1,))), ("and", ("is", "a", (2,)), ("is", "d", (2,)))))])
        self.assertEqual(fewest_forgotten(either, (0, 0, 0, 0)), ("a", "d"))
        self.assertEqual(fewest_forgotten(either, (0, 1, 0, 0)), ("c",))
        self.assertEqual(fewest_forgotten(either, (2, 1, 0, 0)), ("c",))


class ByTheWords(LeafCase):
    def test_random_editions(self):
        empty, more = 0, 0
        for rng in seeded(350):
            edition = small_edition(rng, 6)
            for record in rng.sample(all_records(edition.old), min(3, len(all_records(edition.old)))):
                forgotten = [name for name in edition.old.names if rng.random() < 0.25]
                group = carried(edition, record, forgotten=forgotten)
                wanted = carried_by_words(edition, record, forgotten)
                self.assertEqual(list(group.records()), wanted, edition.steps)
                self.assertEqual(group.table, table_by_words(edition.new, wanted))
                self.assertEqual(carried(edition, record), Group.listed(edition.new, carried_by_words(edition, record)))
                wanted = forgotten_by_words(edition, record)
                if wanted is None:
                    self.assert_error(NoRecord(), fewest_forgotten, edition, record)
                else:
                    self.assertEqual(fewest_forgotten(edition, record), wanted)
                    self.assertTrue(carried(edition, record, forgotten=wanted))
                    more += len(wanted) > 0
                empty += not group
        self.assertGreater(empty, 30)
        self.assertGreater(more, 30)

    def test_random_pairs_and_divisions(self):
        words = ("pair", "divide", "split", "join", "move", "move", "drop", "add", "check")
        seen, more = 0, 0
        for rng in seeded(250):
            form = Form([ask(name, ("pick", rng.choice((2, 3)))) for name in "abc"])
            record = rng.choice(all_records(form))
            name, many = rng.choice("abc"), rng.choice((4, 6))
            split = ("split", name, record[form.place_of(name)], many + 1 - form.kind_of(name)[1])
            edition = Edition(form, [split, ("divide", name, name, "x", 2)])
            for _ in range(20):
                step = random_step(rng, edition.new, rng.choice(words))
                made = step_by_words(edition.new, step)
                if isinstance(made, Form) and len(made) <= 5 and len(all_persons(made)) <= 400 and len(edition) < 9:
                    edition = edition.then(step)
            wanted = carried_by_words(edition, record)
            self.assertEqual(list(carried(edition, record).records()), wanted, edition.steps)
            self.assertEqual(self.forgotten(edition, record), forgotten_by_words(edition, record))
            kinds = kinds_in(edition.new)
            checked = edition + Edition(edition.new, [("check", "zz" + letter, random_condition(rng, kinds)) for letter in "ab"])
            self.assertEqual(self.forgotten(checked, record), forgotten_by_words(checked, record))
            more += 0 < len(forgotten_by_words(checked, record) or ())
            # What is told of the persons is more than can be told for each question alone.
            values = 1
            for place in range(len(edition.new)):
                values *= len({told[place] for told in wanted})
            seen += len(wanted) < values
        self.assertGreater(seen, 30)
        self.assertGreater(more, 20)

    def forgotten(self, edition, record):
        """Return the fewest forgotten questions, or None."""
        try:
            return fewest_forgotten(edition, record)
        except NoRecord:
            return None

    def test_crowds(self):
        for rng in seeded(200):
            edition = small_edition(rng, 7)
            told = [rng.sample(answers_of(kind), rng.randint(1, len(answers_of(kind)))) for _, kind, _ in edition.old.questions]
            crowd = crowd_of([[(0, tuple(sorted(answers)))] for answers in told])
            self.assertEqual(crowd.persons(), sorted(itertools.product(*map(sorted, told))))
            for form, step in zip(edition.stages, edition.steps):
                crowd = crowd_behind(crowd, form, step)
            self.assertEqual(crowd.persons(), sorted(persons_behind(edition, itertools.product(*told))))


class ThereAndBack(LeafCase):
    def test_steps_that_can_be_taken_back(self):
        form = read_form("ask a pick 3\nask b pick 2 when is a 1\nask c pick 4\nask d count 1 3\ncheck e not ( is a 0 and asked c )")
        for steps in (
            [("rename", "a", "x"), ("rename", "x", "a")], [("move", ("c", "d", "a", "b")), ("move", ("a", "b", "c", "d"))],
            [("add", 2, "n", ("count", 0, 99), ("is", "a", (0,))), ("drop", "n")], [("split", "a", 1, 3), ("join", "a", 1, 3)],
            [("bound", "d", 0, 99), ("bound", "d", 1, 3)], [("divide", "c", "q", "r", 2), ("pair", "q", "r", "c")],
            [("need", "d", ("asked", "b")), ("need", "d", ALWAYS)], [("check", "n", ALWAYS), ("uncheck", "n")],
            [("split", "c", 0, 3), ("split", "a", 2, 2), ("join", "c", 0, 2), ("join", "a", 2, 3)],
        ):
            edition = Edition(form, steps)
            self.assertEqual(sorted(edition.new.questions), sorted(form.questions))
            for record in lawful_records(form):
                self.assertEqual(list(carried(edition, record).records()), [record])
                self.assertEqual(fewest_forgotten(edition, record), ())

    def test_pairs(self):
        form = read_form("ask a pick 2\nask b pick 3\nask c pick 2 when ( is a 1 or is b 0 2 )")
        edition = Edition(form, [("pair", "a", "b", "s"), ("need", "c", ALWAYS), ("divide", "s", "a", "b", 3)])
        edition = edition.then(("need", "c", form.need_of("c")))
        self.assertEqual(edition.new, form)
        for record in all_records(form):
            self.assertEqual(list(carried(edition, record).records()), [record])

    def test_random_steps_there_and_back(self):
        kept = 0
        for rng in seeded(200):
            form = easy_form(rng, rng.randint(1, 4))
            edition = Edition(form)
            for _ in range(rng.randint(1, 3)):
                name = rng.choice(form.names)
                kind = edition.new.kind_of(name)
                steps = [("rename", name, "z"), ("rename", "z", name)]
                if kind[0] == "pick" and kind[1] < 6:
                    steps = [("split", name, kind[1] - 1, 2), ("join", name, kind[1] - 1, kind[1])]
                elif kind[0] == "count":
                    steps = [("bound", name, 0, 99), ("bound", name) + kind[1:]]
                if all(not isinstance(step_by_words(Edition(edition.new, steps[:at]).new, step), Exception)
                       for at, step in enumerate(steps[:1])):
                    edition = edition + Edition(edition.new, steps)
            self.assertEqual(edition.new, form)
            for record in rng.sample(lawful_records(form), min(5, len(lawful_records(form)))):
                self.assertEqual(list(carried(edition, record).records()), [record])
                kept += len(edition)
        self.assertGreater(kept, 300)


class AskedFor(LeafCase):
    def test_a_carried_record_is_asked_for_by_a_follow_up(self):
        asked = 0
        for rng in seeded(400):
            edition = small_edition(rng, 4)
            record = rng.choice(all_records(edition.old))
            group = carried(edition, record)
            if not group:
                continue
            true = rng.choice(list(group.records()))
            follow, names = FollowUp(group), []
            while follow.due is not None:
                names.append(follow.due)
                follow.answer(true[edition.new.place_of(follow.due)])
            self.assertEqual(follow.found(), true)
            self.assertFalse(set(names) & set(group.settled()))
            asked += len(names)
        self.assertGreater(asked, 60)

    def test_nothing_is_asked_that_was_told(self):
        form = read_form("ask own pick 2\nask rent count 0 9 when is own 1\nask kids count 0 3")
        edition = Edition(form, [("split", "own", 1, 2), ("add", 3, "cats", ("count", 0, 9), ALWAYS)])
        follow = FollowUp(carried(edition, (1, 4, 2)))
        self.assertEqual(follow.due, "own")
        follow.answer(2)
        self.assertEqual(follow.due, "cats")
        follow.answer(0)
        self.assertEqual(follow.found(), (2, 4, 2, 0))


class Errors(LeafCase):
    def test_bad_records(self):
        edition = Edition(RENT, [("split", "own", 1, 2)])
        for thing in ODD_THINGS + ([1, 2], (1,), (0, 0), (1, None), (1, 3), (2, 0), (True, 0)):
            self.assert_error(BadRecord(0), carried, edition, thing)
            self.assert_error(BadRecord(0), carried, edition, thing, forgotten=("x",))
            self.assert_error(BadRecord(0), fewest_forgotten, edition, thing)

    def test_unknown(self):
        edition = Edition(RENT, [("rename", "own", "home2")])
        self.assert_error(Unknown("home2"), carried, edition, (1, 2), forgotten=["rent", "home2", "x"])
        self.assert_error(Unknown("x"), carried, edition, (1, 2), forgotten=("own", "x"))
        # Names that were not asked, and names twice, change nothing.
        self.assertEqual(list(carried(edition, (0, None), forgotten=("rent", "rent")).records()), [(0, None)])
        forgotten = ["own"]
        self.assertEqual(list(carried(edition, (1, 2), forgotten=forgotten).records()), [(0, None), (1, 2)])
        self.assertEqual(forgotten, ["own"])

    def test_12_and_13_questions(self):
        for many in (12, 13):
            form = Form([ask(name) for name in NAMES[:many]] + [ask("z", ("pick", 2), ("not", ALWAYS))])
            edition = Edition(form, [("check", "c", ("not", ("is", NAMES[0], (0,)))), ("check", "d", ("is", NAMES[11], (1,)))])
            record = (0,) * many + (None,)
            if many == 12:
                self.assertEqual(fewest_forgotten(edition, record), (NAMES[0], NAMES[11]))
            else:
                self.assert_error(TooMany("question"), fewest_forgotten, edition, record)
                never = Edition(form, [("check", "c", ("not", ALWAYS))])
                self.assert_error(TooMany("question"), fewest_forgotten, never, record)
        every = Edition(Form([ask(name, ("count", 0, 9)) for name in NAMES[:12]]), [("bound", name, 5, 9) for name in NAMES[:12]])
        self.assertEqual(fewest_forgotten(every, (0,) * 12), tuple(NAMES[:12]))
        self.assertEqual(fewest_forgotten(every, (0, 9) * 6), tuple(NAMES[:12:2]))
        self.assertEqual(fewest_forgotten(every, (9,) * 11 + (0,)), (NAMES[11],))

    def test_too_many_rests(self):
        items = [ask("a", ("count", 0, 62))] + [ask(name) for name in NAMES[:38]] + [ask("z", ("count", 0, 62))]
        form = Form(items)
        checked = Edition(form, [("check", "c", ("sum", ("a", "z"), 0, 62))])
        record = (5,) * 1 + (0,) * 38 + (6,)
        self.assertEqual(list(carried(checked, record).records()), [record])
        self.assertEqual(carried(checked, record, forgotten=form.names).size, 1 + 63 * 38 + 63 + 1)
        # Here the sums matter in two ways: so there are about twice as many rests.
        first = NAMES[0]
        form = Form([ask("a", ("count", 0, 40))] + [ask(name) for name in NAMES[:38]] + [ask("z", ("count", 0, 30))])
        summed = ("sum", ("a", "z"), 30, 40)
        either = ("or", ("and", ("is", first, (0,)), summed), ("and", ("is", first, (1,)), ("not", summed)))
        twice = Edition(form, [("check", "c", either)])
        record = (20,) + (0,) * 38 + (15,)
        self.assert_error(TooMany("rest"), carried, twice, record, forgotten=form.names)
        self.assertEqual(list(carried(twice, record).records()), [record])
        self.assertEqual(carried(twice, record, forgotten=form.names[2:]).told("z"), tuple(range(10, 21)))


class Large(LeafCase):
    def timed(self, call, *args, **more):
        """Return what a call gives, and fail if it takes too long."""
        begun = time.perf_counter()
        try:
            return call(*args, **more)
        finally:
            self.assertLess(time.perf_counter() - begun, 8)

    def test_forty_counts(self):
        form = Form([ask(NAMES[0])] + [ask(name, ("count", 0, 99), ("is", NAMES[0], (1,))) for name in NAMES[1:]])
        steps = [("move", tuple(NAMES[:1] + NAMES[:0:-1])), ("split", NAMES[0], 1, 3)]
        steps += [("bound", name, 10, 89) for name in NAMES[1:]] + [("need", name, ALWAYS) for name in NAMES[1:]]
        edition = self.timed(Edition, form, steps)
        group = self.timed(carried, edition, (0,) + (None,) * 39)
        self.assertEqual((group.many(), group.first()), (80 ** 39, (0,) + (10,) * 39))
        group = self.timed(carried, edition, (1,) + (50,) * 39)
        self.assertEqual(list(group.records()), [(answer,) + (50,) * 39 for answer in (1, 2, 3)])
        self.assertFalse(self.timed(carried, edition, (1,) + (50,) * 38 + (9,)))
        self.assertEqual(self.timed(carried, edition, (1,) + (50,) * 38 + (9,), forgotten=NAMES).many(), 4 * 80 ** 39)
        self.assertEqual(self.timed(fewest_forgotten, edition, (0,) + (None,) * 39), ())

    def test_checks_that_are_heavy(self):
        form = heavy_form()
        edition = self.timed(Edition, form, [("rename", "aa", "q1"), ("bound", "ca", 5, 20), ("move", form.names[:0] + tuple(
            {"aa": "q1"}.get(name, name) for name in form.names))])
        record = Group.every(form).nth(10 ** 20)
        group = self.timed(carried, edition, record, forgotten=form.names)
        self.assertEqual(group, Group.lawful(edition.new))
        never = [("need", name, ("not", ALWAYS)) for name in form.names[2:]]
        few = Edition(form, never).new
        less = Edition(few, [("need", name, ALWAYS) for name in form.names[2:]] + [("check", "c", ("is", "zab", (1,)))])
        nothing = (None,) * (len(form) - 2)
        self.assertEqual(self.timed(fewest_forgotten, less, (0, 0) + nothing), ("ab",))
        self.assertEqual(self.timed(fewest_forgotten, less, (5, 31) + nothing), ())
        self.assertTrue(is_lawful(less.new, self.timed(carried, less, (5, 31) + nothing).first()))

    def test_many_answers_that_hang_together(self):
        form = Form([ask(name, ("pick", 2)) for name in NAMES[:18]])
        steps = [("split", name, 1, 3) for name in NAMES[:18]]
        steps += [("divide", name, name, "x" + name, 2) for name in NAMES[:18]]
        edition = self.timed(Edition, form, steps)
        group = self.timed(carried, edition, (1,) * 18)
        self.assertEqual((group.many(), group.first()), (3 ** 18, (0, 1) * 18))
        one = self.timed(carried, edition, (0,) * 18)
        self.assertEqual(list(one.records()), [(0, 0) * 18])
        paired = edition + Edition(edition.new, [("pair", "x" + first, second, "y" + first) for first, second in zip(NAMES[:17:2], NAMES[1:18:2])])
        self.assertEqual(self.timed(carried, paired, (1,) * 18).many(), 3 ** 18)

    def test_answers_that_hang_together_far_apart(self):
        form = Form([ask(name, ("pick", 2)) for name in NAMES[:20]])
        steps = [("split", name, 1, 3) for name in NAMES[:20]]
        steps += [("divide", name, name, "x" + name, 2) for name in NAMES[:20]]
        steps.append(("move", tuple(NAMES[:20]) + tuple("x" + name for name in NAMES[:20])))
        edition = self.timed(Edition, form, steps)
        # In the middle there are 2 ** 20 rests.
        with self.assertRaises(TooMany):
            self.timed(carried, edition, (1,) * 20)
        self.assertEqual(list(self.timed(carried, edition, (0,) * 20).records()), [(0,) * 40])
        some = self.timed(carried, edition, (1,) * 3 + (0,) * 17)
        self.assertEqual((some.many(), some.rests(20)), (27, 8))
        # Where one of each two is never asked, all goes together with all.
        less = edition + Edition(edition.new, [("need", "x" + name, ("not", ALWAYS)) for name in NAMES[:20]])
        group = self.timed(carried, less, (1,) * 20)
        self.assertEqual((group.many(), group.size), (2 ** 20, 41))
        twelve = Edition(Form(form.flat[:12]), [step for step in steps[:-1] if step[1] in NAMES[:12]])
        apart = twelve.then(("move", tuple(NAMES[:12]) + tuple("x" + name for name in NAMES[:12])))
        self.assertEqual(self.timed(fewest_forgotten, apart, (1,) * 12), ())
        none = ("not", ("or", ("is", NAMES[3], (1,)), ("is", "x" + NAMES[3], (1,))))
        self.assertEqual(self.timed(fewest_forgotten, apart.then(("check", "c", none)), (1,) * 12), (NAMES[3],))

    def test_record_of_is_carried_by_the_person(self):
        form = read_form("ask a pick 2\nask b pick 2 when is a 1")
        self.assertEqual(record_of(form, (0, 1)), (0, None))
        edition = Edition(form, [("need", "b", ALWAYS)])
        self.assertEqual(list(carried(edition, (0, None)).records()), [(0, 0), (0, 1)])


if __name__ == "__main__":
    unittest.main()
