"""Promise k26, points [1] and [21]: booklets, their rows, and the ways of persons."""

import random
import unittest

from slipleaf.booklets import Booklet
from slipleaf.errors import BadNumber, BadPerson, BadRow, TooMany
from slipleaf.forms import Form
from slipleaf.kinds import answers_of
from slipleaf.reading import read_form
from tests.helper import ODD_THINGS, Agreeing, LeafCase, deep

RENT = read_form("ask own pick 2\nask rent count 3 5 when is own 1")
HOUSE = read_form("ask own pick 2\nask pets tick 2\nask kids count 0 2 when is own 1")
EMPTY = Form(())
ROWS = (
    ("look", "own", 3, (2, 6)),
    ("ask", "kids", (3, 4, 6)),
    ("ask", "own", (4, 5)),
    ("ask", "pets", (5, 6, 7)),
    ("look", "own", 7, (6, 7)),
    ("ask", "own", (7, 7)),
)


def way_by_words(rows, form, person):
    """Return the way of a person and the names that are asked on it, as the words of [21] tell it."""
    way, asked, number = [], [], 1
    while number <= len(rows):
        row = rows[number - 1]
        way.append(number)
        spot = answers_of(form.kind_of(row[1])).index(person[form.place_of(row[1])])
        number = row[2] if row[0] == "look" and row[1] not in asked else row[-1][spot]
        if row[0] == "ask":
            asked.append(row[1])
    return tuple(way), tuple(asked)


def random_rows(rng, form, many):
    """Return so many rows that are as [21] tells."""
    rows = []
    for number in range(1, many + 1):
        name, kind, _ = rng.choice(form.questions)
        onward = [rng.randint(number + 1, min(many + 1, number + 3)) for _ in range(1 + len(answers_of(kind)))]
        ask = ("ask", name, tuple(onward[1:]))
        rows.append(rng.choice((ask, ("look", name, onward[0], tuple(onward[1:])))))
    return rows


class Ways(LeafCase):
    def test_way_and_asked(self):
        booklet = Booklet(HOUSE, ROWS)
        for person, way, asked in (
            ((0, 1, 0), (1, 3, 4, 5, 6), ("own", "pets", "own")), ((0, 2, 0), (1, 3, 4, 6), ("own", "pets", "own")),
            ((0, 3, 2), (1, 3, 4), ("own", "pets")), ((1, 1, 0), (1, 3, 5), ("own",)), ((1, 3, 2), (1, 3, 5), ("own",)),
        ):
            self.assertEqual(booklet.way(person), way)
            self.assertEqual(booklet.asked(person), asked)

    def test_a_look_knows_only_what_was_answered_in_the_booklet(self):
        booklet = Booklet(RENT, [("look", "own", 3, (2, 2)), ("ask", "own", (4, 4)), ("ask", "rent", (4, 4, 4))])
        self.assertEqual((booklet.way((0, 3)), booklet.asked((1, 4))), ((1, 3), ("rent",)))
        booklet = Booklet(RENT, [("ask", "own", (2, 2)), ("look", "own", 4, (3, 4)), ("ask", "rent", (4, 4, 4))])
        self.assertEqual((booklet.way((0, 3)), booklet.way((1, 3))), ((1, 2, 3), (1, 2)))

    def test_a_question_may_be_asked_again(self):
        booklet = Booklet(RENT, [("ask", "own", (2, 2)), ("ask", "own", (3, 3))])
        self.assertEqual(booklet.asked((1, 3)), ("own", "own"))

    def test_a_person_is_asked_what_its_record_does_not_have(self):
        booklet = Booklet(RENT, [("ask", "rent", (2, 3, 3)), ("ask", "own", (3, 3))])
        self.assertEqual((booklet.asked((0, 3)), booklet.asked((0, 4))), (("rent", "own"), ("rent",)))

    def test_no_rows(self):
        for form, person in ((EMPTY, ()), (RENT, (0, 3))):
            booklet = Booklet(form, ())
            self.assertEqual((booklet.end, booklet.way(person), booklet.asked(person)), (1, (), ()))
            self.assertEqual((len(booklet), list(booklet), booklet.first_look()), (0, [], 0))

    def test_as_the_words_tell(self):
        for seed in range(100):
            rng = random.Random(seed)
            rows = random_rows(rng, HOUSE, rng.randint(0, 9))
            booklet = Booklet(HOUSE, rows)
            self.assertEqual(booklet.rows, tuple(rows))
            for own in (0, 1):
                for pets in (1, 2, 3):
                    for kids in (0, 1, 2):
                        person = (own, pets, kids)
                        told = (booklet.way(person), booklet.asked(person))
                        self.assertEqual(told, way_by_words(rows, HOUSE, person))

    def test_bad_person(self):
        booklet = Booklet(RENT, ())
        for call in (booklet.way, booklet.asked):
            for thing in (*ODD_THINGS, (0,), (0, 3, 3), [0, 3], None, "03"):
                place = 0 if type(thing) is tuple and len(thing) == 2 else -1
                self.assert_error(BadPerson(place), call, thing)
            for person, place in (
                ((2, 9), 0), ((0, 2), 1), ((0, 6), 1), ((0, None), 1), ((True, 3), 0), ((0, True), 1),
            ):
                self.assert_error(BadPerson(place), call, person)
        self.assert_error(BadPerson(-1), Booklet(EMPTY, ()).way, [])


class Rows(LeafCase):
    def test_attributes(self):
        for rows in (ROWS, list(ROWS)):
            booklet = Booklet(HOUSE, rows)
            self.assertEqual((booklet.form, booklet.rows), (HOUSE, ROWS))
            self.assertIs(type(booklet.rows), tuple)
            self.assertEqual((len(booklet), booklet.end, list(booklet)), (6, 7, list(ROWS)))
            self.assertEqual([booklet[number] for number in range(1, 7)], list(ROWS))

    def test_rows_are_copied(self):
        rows = list(ROWS)
        booklet = Booklet(HOUSE, rows)
        rows.pop()
        self.assertEqual(booklet.rows, ROWS)
        again = list(booklet)
        again.pop()
        self.assertEqual(len(booklet), 6)

    def test_numbers(self):
        booklet = Booklet(HOUSE, ROWS)
        for number in (
            0, -1, 7, 8, True, False, None, 1.0, "1", (1,), [], deep(130), 10 ** 29, -(10 ** 29), Agreeing(),
        ):
            self.assert_error(BadNumber(number), lambda: booklet[number])
        self.assert_error(BadNumber(1), lambda: Booklet(HOUSE, ())[1])

    def test_first_look(self):
        self.assertEqual(Booklet(HOUSE, ROWS).first_look(), 1)
        rows = [("ask", "own", (2, 2)), ("look", "own", 3, (3, 3)), ("look", "own", 4, (4, 4))]
        self.assertEqual(Booklet(HOUSE, rows).first_look(), 2)
        self.assertEqual(Booklet(RENT, [("ask", "own", (2, 2))]).first_look(), 0)

    def test_equal(self):
        booklet = Booklet(HOUSE, ROWS)
        self.assertEqual(booklet, Booklet(Form(HOUSE.flat), list(ROWS)))
        self.assertNotEqual(booklet, Booklet(HOUSE, ROWS[:-1] + (("look", "own", 7, (7, 7)),)))
        self.assertNotEqual(Booklet(HOUSE, ()), Booklet(RENT, ()))
        for thing in (None, ROWS, list(ROWS), HOUSE, 0):
            self.assertIs(booklet == thing, False)


class Errors(LeafCase):
    def test_bad_row(self):
        bad = (
            *ODD_THINGS, deep(130), "ask", ["ask", "own", (3, 3)], ("ask",), ("ask", "own"), ("ask", "own", (3, 3), ()),
            ("ask", "own", 3, (3, 3)), ("ask", "own", [3, 3]), ("ask", "own", (3,)), ("ask", "own", (3, 3, 3)),
            ("ask", "own", (2, 3)), ("ask", "own", (3, 2)), ("ask", "own", (3, 4)), ("ask", "own", (0, 3)),
            ("ask", "own", (-1, 3)), ("ask", "own", (3, True)), ("ask", "own", (3, None)), ("ask", "own", (3, "3")),
            ("ask", "own", (3, 3.0)), ("ask", "own", (3, Agreeing())), ("ask", "own", 3), ("ask", "own", None),
            ("ask", "Own", (3, 3)), ("ask", "owns", (3, 3)), ("ask", "", (3, 3)), ("ask", None, (3, 3)),
            ("ask", ("own",), (3, 3)), ("ask", Agreeing(), (3, 3)), ("ask", 0, (3, 3)), (Agreeing(), "own", (3, 3)),
            ("Ask", "own", (3, 3)), ("tell", "own", (3, 3)), ("ask", "rent", (3, 3)), ("ask", "rent", (3, 3, 3, 3)),
            ("look",), ("look", "own", (3, 3)), ("look", "own", 3), ("look", "own", 3, (3, 3), ()),
            ["look", "own", 3, (3, 3)],
            ("look", "own", 2, (3, 3)), ("look", "own", 4, (3, 3)), ("look", "own", True, (3, 3)),
            ("look", "own", None, (3, 3)),
            ("look", "own", 3, (3,)), ("look", "own", 3, (2, 3)), ("look", "own", 3, (3, 4)),
            ("look", "own", 3, [3, 3]),
            ("look", "owns", 3, (3, 3)), ("look", "own", (3, 3), 3), ("look", "own", "3", (3, 3)),
            ("look", "own", 10 ** 29, (3, 3)),
            (Agreeing(), "own", 3, (3, 3)), ("look", Agreeing(), 3, (3, 3)), ("look", "own", Agreeing(), (3, 3)),
        )
        good = ("ask", "own", (2, 3))
        self.assertEqual(len(Booklet(RENT, (good, ("ask", "own", (3, 3))))), 2)
        for thing in bad:
            with self.subTest(repr(thing)[:60]):
                self.assert_error(BadRow(2), Booklet, RENT, (good, thing))
                self.assert_error(BadRow(2), Booklet, RENT, [good, thing])

    def test_the_first_one_counts(self):
        self.assert_error(BadRow(1), Booklet, RENT, [None, ("ask", "own", (3, 3)), None])
        self.assert_error(BadRow(2), Booklet, RENT, [("ask", "own", (2, 4)), ("ask", "own", (2, 3)), None])
        self.assert_error(BadRow(1), Booklet, EMPTY, [("ask", "own", (2, 2))])

    def test_arrows_to_the_end(self):
        Booklet(RENT, [("ask", "rent", (2, 2, 2))])
        self.assert_error(BadRow(1), Booklet, RENT, [("ask", "rent", (2, 2, 3))])
        self.assert_error(BadRow(1), Booklet, RENT, [("ask", "rent", (1, 2, 2))])

    def test_too_many(self):
        rows = [("ask", "own", (number + 1, number + 1)) for number in range(1, 402)]
        booklet = Booklet(RENT, rows[:400])
        self.assertEqual((len(booklet), booklet.end, booklet[400]), (400, 401, rows[399]))
        self.assertEqual(len(booklet.way((0, 3))), 400)
        self.assert_error(TooMany("row"), Booklet, RENT, rows)
        self.assert_error(TooMany("row"), Booklet, RENT, [None] * 401)
        self.assert_error(TooMany("row"), Booklet, RENT, (None,) + tuple(rows[1:]))
        self.assert_error(BadRow(1), Booklet, RENT, [None] * 400)


if __name__ == "__main__":
    unittest.main()
