"""Promises [5], [13], [14] and the interface of slipleaf/records.py."""

import itertools
import unittest

from slipleaf.conditions import holds
from slipleaf.errors import BadPerson, BadRecord
from slipleaf.forms import Form
from slipleaf.kinds import answers_of
from slipleaf.records import asked_in, failing_checks, is_lawful, is_record, person_of, record_of
from tests.helper import ALWAYS, ODD_THINGS, LeafCase, ask, deep

RENT = Form((ask("own"), ask("rent", ("count", 3, 5), ("is", "own", (1,)))))
HOUSE = Form((
    ask("own", ("pick", 3)),
    ask("pets", ("tick", 2), ("not", ("is", "own", (0,)))),
    ask("kids", ("count", 1, 2), ("or", ("has", "pets", 1), ("is", "own", (0,)))),
    ("check", "some", ("or", ("asked", "pets"), ("asked", "kids"))),
    ("twice", "own", "owna"),
    ("each", "kids", (ask("age", ("count", 7, 8), ("is", "own", (1, 2))), ("check", "age", ("from", "age", 0, 7)))),
    ("check", "total", ("sum", ("age1", "age2"), 0, 15)),
))
EMPTY = Form(())
FORMS = (RENT, HOUSE, EMPTY, Form((("check", "never", ("not", ALWAYS)),)), Form((ask("a"), ask("b"), ask("c"))))


def persons_of(form):
    """Return all persons of a form."""
    return itertools.product(*(answers_of(kind) for _, kind, _ in form.questions))


def record_by_words(form, person):
    """Return the record of a person, as the words of [13] tell it."""
    values = ()
    for (_, _, need), answer in zip(form.questions, person):
        values += (answer if holds(need, dict(zip(form.names, values))) else None,)
    return values


def records_of(form):
    """Return all records of a form."""
    return {record_by_words(form, person) for person in persons_of(form)}


class RecordOf(LeafCase):
    def test_walks(self):
        self.assertEqual(record_of(RENT, (0, 5)), (0, None))
        self.assertEqual(record_of(RENT, (1, 5)), (1, 5))
        self.assertEqual(record_of(EMPTY, ()), ())
        self.assertEqual(record_of(HOUSE, (0, 1, 2, 2, 8, 7)), (0, None, 2, 2, None, None))
        self.assertEqual(record_of(HOUSE, (1, 1, 2, 2, 8, 7)), (1, 1, None, 2, None, None))
        self.assertEqual(record_of(HOUSE, (1, 2, 1, 2, 8, 7)), (1, 2, 1, 2, 8, None))

    def test_as_the_words_tell(self):
        for form in FORMS:
            for person in persons_of(form):
                self.assertEqual(record_of(form, person), record_by_words(form, person))

    def test_a_need_looks_at_values_and_not_at_the_person(self):
        form = Form((ask("a"), ask("b", ("pick", 2), ("is", "a", (1,))), ask("c", ("pick", 2), ("is", "b", (1,)))))
        self.assertEqual(record_of(form, (0, 1, 1)), (0, None, None))

    def test_bad_person(self):
        for thing in (*ODD_THINGS, (0,), (0, 3, 3), [0, 3], (0, 3, None), "03", {0: 3}, deep(130)):
            with self.subTest(repr(thing)[:60]):
                place = 0 if isinstance(thing, tuple) and len(thing) == 2 else -1
                self.assert_error(BadPerson(place), record_of, RENT, thing)
        for thing in ([], None, (None,), (0,), {}):
            self.assert_error(BadPerson(-1), record_of, EMPTY, thing)

    def test_bad_answers(self):
        for person, place in (
            ((2, 3), 0), ((-1, 3), 0), ((None, 3), 0), ((True, 3), 0), ((False, 3), 0), ((0, 2), 1), ((0, 6), 1),
            ((1, 6), 1), ((0, None), 1), ((0, True), 1), ((2, 9), 0), (([0], 3), 0), ((0, (3,)), 1), ((0, "3"), 1),
            ((0, 3.0), 1), ((0, -1), 1), ((0, -2), 1), ((0, 10 ** 29), 1),
        ):
            with self.subTest(person):
                self.assert_error(BadPerson(place), record_of, RENT, person)

    def test_person_is_not_changed(self):
        person = (0, 3)
        record_of(RENT, person)
        self.assertEqual(person, (0, 3))


class IsRecord(LeafCase):
    def test_just_the_records_of_persons(self):
        for form in FORMS[:3]:
            records = records_of(form)
            choices = [(None, *answers_of(kind)) for _, kind, _ in form.questions]
            for thing in itertools.product(*choices):
                self.assertIs(is_record(form, thing), thing in records)

    def test_no_record(self):
        for thing in (
            *ODD_THINGS, deep(130), [0, None], (0,), (0, 3), (1, None), (0, None, None), (1, 2), (1, 6), (2, None),
            (True, 3), (False, None), (1, True), (None, None), (None, 3), (-1, None), (0, -1), (1, -1), ([1], 3),
            (1, (3,)), (0, False), (0, ()), (0, 0), ("0", None), (1, "3"), (1.0, 3), (1, 10 ** 29), "00",
        ):
            with self.subTest(repr(thing)[:60]):
                self.assertIs(is_record(RENT, thing), False)

    def test_empty_form(self):
        self.assertIs(is_record(EMPTY, ()), True)
        self.assertIs(is_record(EMPTY, []), False)
        self.assertIs(is_record(EMPTY, (None,)), False)


class OfRecords(LeafCase):
    def test_asked_in(self):
        self.assertEqual(asked_in(RENT, (0, None)), ("own",))
        self.assertEqual(asked_in(RENT, (1, 3)), ("own", "rent"))
        self.assertEqual(asked_in(HOUSE, (0, None, 2, 2, None, None)), ("own", "kids", "owna"))
        self.assertEqual(asked_in(EMPTY, ()), ())
        zero = Form((ask("a", ("count", 0, 9)),))
        self.assertEqual(asked_in(zero, (0,)), ("a",))

    def test_failing_checks(self):
        for record, names in (
            ((0, None, 2, 0, None, None), ("age1", "age2")), ((0, None, 1, 1, None, None), ("owna", "age1")),
            ((1, 2, 2, 1, 7, 7), ()), ((1, 2, 2, 1, 8, 7), ("age1",)), ((1, 2, 2, 1, 7, 8), ("age2",)),
            ((1, 2, 2, 0, 8, 8), ("owna", "age1", "age2", "total")), ((1, 2, 1, 2, 8, None), ("owna", "age1")),
            ((1, 1, None, 1, None, None), ()),
        ):
            with self.subTest(record):
                self.assertEqual(failing_checks(HOUSE, record), names)
                self.assertIs(is_lawful(HOUSE, record), names == ())

    def test_checks_ahead_of_all_questions(self):
        self.assertEqual(failing_checks(FORMS[3], ()), ("never",))
        self.assertIs(is_lawful(FORMS[3], ()), False)
        self.assertIs(is_lawful(EMPTY, ()), True)
        form = Form((ask("b"), ("check", "z", ("is", "b", (0,))), ask("a"), ("check", "y", ("same", "a", "b"))))
        self.assertEqual(failing_checks(form, (1, 0)), ("z", "y"))
        self.assertEqual(failing_checks(form, (1, 1)), ("z",))
        self.assertEqual(failing_checks(form, (0, 1)), ("y",))

    def test_checks_do_not_change_what_is_asked(self):
        form = Form((ask("a"), ("check", "c", ("is", "a", (0,))), ask("b", ("pick", 2), ("is", "a", (1,)))))
        self.assertEqual(record_of(form, (1, 1)), (1, 1))
        self.assertIs(is_record(form, (1, 1)), True)
        self.assertIs(is_lawful(form, (1, 1)), False)

    def test_person_of(self):
        self.assertEqual(person_of(RENT, (0, None)), (0, 3))
        self.assertEqual(person_of(RENT, (1, 5)), (1, 5))
        self.assertEqual(person_of(EMPTY, ()), ())
        form = Form((ask("no", ("pick", 2)), *(
            ask(name, kind, ("is", "no", (1,))) for name, kind in
            (("a", ("pick", 3)), ("b", ("tick", 3)), ("c", ("count", 0, 4)), ("d", ("count", 98, 99)))
        )))
        self.assertEqual(person_of(form, (0, None, None, None, None)), (0, 0, 1, 0, 98))
        self.assertEqual(person_of(form, (1, 2, 7, 4, 99)), (1, 2, 7, 4, 99))

    def test_all_records(self):
        for form in FORMS:
            for record in records_of(form):
                person = person_of(form, record)
                self.assertEqual(record_of(form, person), record)
                least = [min(p) for p in zip(*(p for p in persons_of(form) if record_by_words(form, p) == record))]
                self.assertEqual(person, tuple(least))
                told = dict(zip(form.names, record))
                self.assertEqual(asked_in(form, record), tuple(name for name in form if told[name] is not None))
                fails = tuple(name for name, _, condition in form.checks if not holds(condition, told))
                self.assertEqual(failing_checks(form, record), fails)
                self.assertIs(is_lawful(form, record), not fails)

    def test_bad_record(self):
        wrong = ([0, None], (0, 3), (1, None), (1, 2), (True, 3), (0, None, None), (2, None))
        for thing in (*ODD_THINGS, deep(130), *wrong):
            for call in (asked_in, failing_checks, is_lawful, person_of):
                with self.subTest((call, repr(thing)[:60])):
                    self.assert_error(BadRecord(0), call, RENT, thing)
        for call in (asked_in, failing_checks, is_lawful, person_of):
            self.assert_error(BadRecord(0), call, EMPTY, [])

    def test_two_forms_by_turns(self):
        other = Form((ask("own", ("pick", 3)), ask("rent", ("count", 0, 9), ("is", "own", (2,))),
                      ("check", "own", ("is", "own", (0, 1)))))
        for _ in range(2):
            self.assertEqual((record_of(RENT, (1, 4)), record_of(other, (1, 4))), ((1, 4), (1, None)))
            self.assertEqual((is_record(RENT, (1, None)), is_record(other, (1, None))), (False, True))
            self.assertEqual((is_lawful(other, (2, 0)), is_lawful(RENT, (1, 3))), (False, True))
            self.assertEqual((person_of(RENT, (0, None)), person_of(other, (0, None))), ((0, 3), (0, 0)))


if __name__ == "__main__":
    unittest.main()
