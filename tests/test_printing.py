"""Promises k42 and k43, points [2], [21], [29], [31] to [33]: listed answers, and the lines of rows."""

import unittest

from slipleaf.arrows import least_booklet
from slipleaf.booklets import Booklet
from slipleaf.errors import BadAnswer, BadKind, BadNumber, BadRow, BadSize, Unlike
from slipleaf.forms import Form
from slipleaf.kinds import answers_of
from slipleaf.printing import answers_listed, row_lines
from slipleaf.reading import read_form
from tests.helper import ODD_THINGS, LeafCase, ask
from tests.makers import NUMERALS, ONE_OR_MORE, OTHER_WORDS, random_texts, right_booklet, tongue_of
from tests.oracle import random_form, seeded
from tests.paper_oracle import random_pages
from tests.print_oracle import listed_by_words, row_by_words

HOUSE = read_form("ask own pick 3\nask pets tick 3 when is own 1\nask kids count 0 9\nask last pick 2")
ROWS = (
    ("ask", "own", (2, 3, 4)), ("ask", "pets", (3, 5, 4, 5, 3, 4, 3)), ("ask", "kids", (4, 4, 4, 5, 5, 4, 5, 4, 4, 5)),
    ("ask", "last", (5, 5)),
)
TONGUE = tongue_of(HOUSE, texts={
    "own": ("Is the house yours or somebody else's?",), "pets": ("Pets",), "kids": (("label", "own"), " kids"), "last": (),
}, labels={"own": ("mine", "that of somebody I know very well", "x"), "pets": ("cats", "dogs", "fish"), "last": ("n", "y")})


class Listed(LeafCase):
    def test_examples(self):
        for kind, answers, text in (
            (("count", 0, 9), (0, 1, 2, 5, 7, 8), "0-2, 5, 7-8"), (("count", 0, 9), (), ""), (("pick", 2), [], ""),
            (("count", 5, 99), (5, 98, 99), "5, 98-99"), (("count", 0, 9), tuple(range(10)), "0-9"),
            (("pick", 6), (0, 1, 5), "a, b, f"), (("pick", 2), (0, 1), "a, b"), (("tick", 4), [15], "a+b+c+d"),
            (("tick", 3), (1, 2, 3, 4, 5, 6, 7), "a, b, a+b, c, a+c, b+c, a+b+c"), (("count", 0, 9), [3], "3"),
        ):
            self.assertEqual(answers_listed(kind, answers), text)

    def test_as_the_words_tell(self):
        for rng in seeded(100):
            kind = rng.choice((("pick", 5), ("tick", 4), ("count", 7, 31), ("count", 0, 99)))
            answers = [answer for answer in answers_of(kind) if rng.random() < 0.6]
            self.assertEqual(answers_listed(kind, answers), listed_by_words(kind, answers))

    def test_errors_in_order(self):
        for kind in ODD_THINGS + (("pick", 7), ("tick", 1), ("count", 5, 5), ["pick", 2]):
            self.assert_error(BadKind(), answers_listed, kind, (99, 0))
        for thing in ODD_THINGS + (-1, -2, 3):
            self.assert_error(BadAnswer(""), answers_listed, ("pick", 3), (0, thing))
        for answers in ((1, 0), (0, 0), (0, 2, 1), [1, 1], (0, 1, True), (3,)):
            self.assert_error(BadAnswer(""), answers_listed, ("pick", 3), answers)
        self.assert_error(BadAnswer(""), answers_listed, ("tick", 2), (0, 1))
        self.assert_error(BadAnswer(""), answers_listed, ("count", 3, 8), (2, 3))

    def test_arguments_are_not_changed(self):
        answers = [0, 2]
        answers_listed(("pick", 3), answers)
        self.assertEqual(answers, [0, 2])


class Lines(LeafCase):
    def test_examples(self):
        booklet = Booklet(HOUSE, ROWS)
        pages = (1, 1, 2, 30)
        self.assertEqual(row_lines(booklet, TONGUE, 1, pages, 60), (
            "1. Q1 Is the house yours or somebody else's?", "  [a] mine", "  [b] that of somebody I know very well", "  [c] x",
            "  > b: goto 3, page 2", "  > c: goto 4, page 30",
        ))
        self.assertEqual(row_lines(booklet, TONGUE, 2, list(pages), 24), (
            "2. Q2 Pets", "  [a] cats", "  [b] dogs", "  [c] fish", "  > a+b, b+c: goto 4,", "    page 30", "  > b, c: end",
        ))
        self.assertEqual(row_lines(booklet, TONGUE, 3, pages, 24), (
            "3. Q3 (1) kids", "  [  ]", "  > 3-4, 6, 9: end",
        ))
        # The end is the next number here, so no arrow is printed; and the text is empty.
        self.assertEqual(row_lines(booklet, TONGUE, 4, pages, 24), ("4. Q4", "  [a] n", "  [b] y"))
        self.assertEqual(row_lines(booklet, TONGUE, 1, pages, 24)[:2], ("1. Q1 Is the house yours", "    or somebody else's?"))

    def test_any_and_the_last_answer_alone(self):
        form = read_form("ask a count 5 7\nask b pick 2\nask c tick 2")
        booklet = Booklet(form, [("ask", "a", (3, 3, 3)), ("ask", "b", (4, 3)), ("ask", "c", (4, 4, 4))])
        tongue = tongue_of(form, words=("to", "p", "stop", "all", "and"))
        pages = (1, 5, 999)
        self.assertEqual(row_lines(booklet, tongue, 1, pages, 80)[-1], "  > all: to 3, p 999")
        self.assertEqual(row_lines(booklet, tongue, 2, pages, 80)[-1], "  > a: stop")
        self.assertEqual(row_lines(booklet, tongue, 3, pages, 80)[-1], "  [b] c no 1")

    def test_as_the_words_tell(self):
        for rng in seeded(120):
            form = random_form(rng)
            booklet = right_booklet(rng, form)
            tongue = tongue_of(form, texts=random_texts(rng, form))
            pages, width = random_pages(rng, len(booklet)), rng.choice((24, 25, 31, 60, 80))
            for number, row in enumerate(booklet.rows, start=1):
                wanted = row_by_words(tongue, number, row, booklet.end, pages, width)
                self.assertEqual(row_lines(booklet, tongue, number, pages, width), wanted)
                self.assertLessEqual(max(len(line) for line in wanted), width)

    def test_errors_in_order(self):
        booklet, other = Booklet(HOUSE, ROWS), least_booklet(Form([ask("own")]))
        looking = Booklet(HOUSE, ROWS[:2] + (("look", "own", 4, (4, 4, 4)),) + (("look", "own", 5, (5, 5, 5)),))
        self.assert_error(Unlike(), row_lines, other, TONGUE, 0, (), 0)
        self.assert_error(BadRow(3), row_lines, looking, TONGUE, 0, (1, 1, 1, 1), 0)
        for row in ODD_THINGS + (0, 5, -1, "1"):
            with self.assertRaises(BadNumber) as caught:
                row_lines(booklet, TONGUE, row, (1,) * 4, 0)
            self.assertIs(caught.exception.number, row)
        for width in ODD_THINGS + (23, 81):
            with self.assertRaises(BadSize) as caught:
                row_lines(booklet, TONGUE, 4, (1,) * 4, width)
            self.assertIs(caught.exception.number, width)
        checked = read_form("ask own pick 3\nask pets tick 3 when is own 1\nask kids count 0 9\nask last pick 2\ncheck a always")
        self.assert_error(Unlike(), row_lines, Booklet(checked, ROWS), TONGUE, 1, (1,) * 4, 60)

    def test_arguments_are_not_changed(self):
        pages = [1, 1, 2, 2]
        booklet = Booklet(HOUSE, ROWS)
        row_lines(booklet, TONGUE, 1, pages, 60)
        self.assertEqual((pages, booklet), ([1, 1, 2, 2], Booklet(HOUSE, ROWS)))

    def test_another_tongue(self):
        other = tongue_of(HOUSE, words=OTHER_WORDS, numerals=NUMERALS, classes=ONE_OR_MORE)
        self.assertEqual(row_lines(Booklet(HOUSE, ROWS), other, 2, (1, 1, 1, 1), 60)[-2:], (
            "  > a+b, b+c: gehezu 4, seite 1", "  > b, c: schluss",
        ))


if __name__ == "__main__":
    unittest.main()
