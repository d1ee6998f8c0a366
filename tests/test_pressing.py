"""Promises k44 to k46 and k94, points [1], [33] to [35]: presses, layouts and printed pages."""

import itertools
import time
import unittest

from slipleaf.arrows import least_booklet
from slipleaf.booklets import Booklet
from slipleaf.errors import BadRow, BadSize, TooTall, Unlike
from slipleaf.forms import Form
from slipleaf.pressing import Press
from slipleaf.reading import read_form
from tests.helper import ODD_THINGS, LeafCase, ask
from tests.makers import OTHER_NUMERALS, OTHER_WORDS, random_texts, right_booklet, tongue_of
from tests.oracle import random_form, seeded
from tests.test_arrows import form_of_rows
from tests.print_oracle import all_rows_by_words, layout_by_words, paged_by_words, printed_by_words

HOUSE = read_form("ask own pick 3\nask pets tick 3 when is own 1\nask kids count 0 9\nask last pick 2")
BOOKLET = least_booklet(HOUSE)
TONGUE = tongue_of(HOUSE)


def press_of(**sizes):
    """Return a press of the house."""
    return Press(BOOKLET, TONGUE, **sizes)


def sizes_of(press):
    """Return the width and the height of a press."""
    return (press.width, press.height)


class Sizes(LeafCase):
    def test_width_and_height(self):
        self.assertEqual(sizes_of(press_of()), (60, 30))
        self.assertEqual(sizes_of(press_of(height=5, width=24)), (24, 5))
        press = press_of(width=80, height=60)
        self.assertEqual(sizes_of(press), (80, 60))
        press.width = 24
        press.height = 5
        self.assertEqual(sizes_of(press), (24, 5))
        self.assertIsNone(press.resize(80, 60))
        self.assertEqual(sizes_of(press), (80, 60))
        press.width += -1
        press.height -= 1
        self.assertEqual(sizes_of(press), (79, 59))

    def test_wrong_sizes_change_nothing(self):
        press = press_of(width=30, height=20)
        for width in ODD_THINGS + (23, 81, "30", 30.0):
            with self.assertRaises(BadSize) as caught:
                press.width = width
            self.assertIs(caught.exception.number, width)
            for call in (press.resize, press.printed_at):
                with self.assertRaises(BadSize) as caught:
                    call(width, 0)
                self.assertIs(caught.exception.number, width)
            self.assert_error(BadSize(width), press_of, width=width, height=None)
        for height in ODD_THINGS + (4, 61, "20", 20.0):
            with self.assertRaises(BadSize) as caught:
                press.height = height
            self.assertIs(caught.exception.number, height)
            for call in (press.resize, press.printed_at):
                with self.assertRaises(BadSize) as caught:
                    call(40, height)
                self.assertIs(caught.exception.number, height)
            self.assert_error(BadSize(height), press_of, height=height)
        self.assertEqual(sizes_of(press), (30, 20))

    def test_errors_in_order(self):
        other = least_booklet(Form([ask("own")]))
        looking = Booklet(HOUSE, [("look", "own", 2, (2, 2, 2))] + [("look", "kids", 3, (3,) * 10)])
        self.assert_error(Unlike(), Press, other, TONGUE, width=0, height=0)
        self.assert_error(BadRow(1), Press, looking, TONGUE, width=0, height=0)
        self.assert_error(BadSize(81), press_of, width=81, height=4)
        with self.assertRaises(TypeError):
            Press(BOOKLET, TONGUE, 60, 30)


class Trials(LeafCase):
    def test_sizes_come_back(self):
        press = press_of(width=40, height=20)
        with press.trial():
            press.width = 24
            press.resize(50, 50)
            self.assertEqual(sizes_of(press), (50, 50))
        self.assertEqual(sizes_of(press), (40, 20))

    def test_behind_an_error_too(self):
        press = press_of(width=40, height=20)
        with self.assertRaises(KeyError):
            with press.trial():
                press.height = 60
                raise KeyError("x")
        self.assertEqual(sizes_of(press), (40, 20))

    def test_what_they_were_when_the_block_began(self):
        press = press_of(width=40, height=20)
        trial = press.trial()
        press.width = 50
        with trial:
            press.width = 60
        self.assertEqual(press.width, 50)
        press.height = 30
        with trial:
            press.height = 60
            with press.trial():
                press.resize(24, 5)
            self.assertEqual(sizes_of(press), (50, 60))
            with trial:
                press.resize(24, 5)
            self.assertEqual(sizes_of(press), (50, 60))
        self.assertEqual(sizes_of(press), (50, 30))

    def test_printed_at(self):
        press = press_of(width=40, height=20)
        self.assertEqual(press.printed_at(24, 12), press_of(width=24, height=12).printed())
        self.assertEqual(sizes_of(press), (40, 20))
        self.assert_error(TooTall(1), press.printed_at, 60, 5)
        self.assertEqual(sizes_of(press), (40, 20))
        self.assertEqual(press.printed(), press_of(width=40, height=20).printed())


class Layouts(LeafCase):
    def test_example(self):
        press = press_of(width=60, height=9)
        self.assertEqual(press.layout(), (1, 2, 2, 3))
        self.assertEqual(press.printed(), (
            ("= page 1 =", "1. Q1 What about own", "  [a] own no 0", "  [b] own no 1", "  [c] own no 2",
             "  > a, c: goto 3, page 2"),
            ("= page 2 =", "2. Q2 What about pets", "  [a] pets no 0", "  [b] pets no 1", "  [c] pets no 2",
             "3. Q3 What about kids", "  [  ]"),
            ("= page 3 =", "4. Q4 What about last", "  [a] last no 0", "  [b] last no 1"),
        ))
        # One line less, and row 3 fits no more behind row 2.
        self.assertEqual(press_of(width=60, height=7).layout(), (1, 2, 2, 3))
        self.assertEqual(press_of(width=60, height=6).layout(), (1, 2, 3, 3))

    def test_no_rows(self):
        for form in (Form(()), read_form("ask a pick 2 when not always")):
            press = Press(least_booklet(form), tongue_of(form))
            self.assertEqual((press.layout(), press.printed(), press.printed_at(24, 5)), ((), (), ()))

    def test_as_the_words_tell(self):
        tall = 0
        for rng in seeded(150):
            form = random_form(rng)
            booklet = right_booklet(rng, form)
            tongue = tongue_of(form, texts=random_texts(rng, form))
            press = Press(booklet, tongue, width=rng.choice((24, 26, 40, 80)), height=rng.choice((5, 6, 7, 9, 12, 60)))
            wanted = layout_by_words(booklet, tongue, press.width, press.height)
            if isinstance(wanted, int):
                self.assert_error(TooTall(wanted), press.layout)
                self.assert_error(TooTall(wanted), press.printed)
                tall += 1
                continue
            self.assertEqual(press.layout(), wanted)
            self.assertEqual(press.printed(), printed_by_words(booklet, tongue, wanted, press.width))
            for page in press.printed():
                self.assertLessEqual(len(page), press.height)
        self.assertGreater(tall, 5)

    def test_pages_agree_with_themselves_and_are_the_least(self):
        for rng in seeded(60):
            form = random_form(rng, 3)
            booklet = right_booklet(rng, form)
            if not 0 < len(booklet) < 6:
                continue
            tongue = tongue_of(form, texts=random_texts(rng, form))
            press = Press(booklet, tongue, width=24, height=rng.choice((7, 9, 12)))
            agreeing = []
            for steps in itertools.product((0, 1), repeat=len(booklet) - 1):
                pages = tuple(itertools.accumulate((1,) + steps))
                if paged_by_words(all_rows_by_words(booklet, tongue, pages, 24), press.height) == pages:
                    agreeing.append(pages)
            try:
                pages = press.layout()
            except TooTall:
                continue
            self.assertIn(pages, agreeing)
            self.assertEqual(pages, tuple(min(column) for column in zip(*agreeing)))

    def test_too_tall_at_the_first_such_time(self):
        # Row 1 has an arrow that takes a line more when its page has two figures.
        names = [first + second for first in "bcd" for second in "abcdefgh"]
        items = [ask("a", ("pick", 2))] + [ask(name, ("pick", 2), ("is", "a", (0,))) for name in names]
        form = Form(items + [ask("zz")])
        booklet = least_booklet(form)
        tight = tongue_of(form, texts={name: () for name in form.names}, words=("goooo", "paaaa", "end", "any", "and"))
        self.assertEqual(all_rows_by_words(booklet, tight, (1,) * 26, 24)[0][-1], "  > b: goooo 26, paaaa 1")
        self.assertEqual(len(all_rows_by_words(booklet, tight, (99,) * 26, 24)[0]), 5)
        # At first row 1 has 4 lines and fits; on page 26 its arrow needs a fifth one.
        self.assert_error(TooTall(1), Press(booklet, tight, width=24, height=5).layout)
        self.assertEqual(Press(booklet, tight, width=24, height=6).layout()[:3], (1, 2, 3))
        both = tongue_of(form, texts={**{name: () for name in form.names}, "cc": ("x " * 30,)}, words=tight.words)
        # A row farther behind that is too tall at once goes first.
        self.assert_error(TooTall(1 + 1 + names.index("cc")), Press(booklet, both, width=24, height=5).layout)

    def test_pages_of_one_to_three_figures(self):
        form = Form([ask("a"), ask("b", ("count", 0, 9))])
        moved = 0
        for rng in seeded(5):
            rows = []
            for number in range(1, 301):
                name, kind, _ = rng.choice(form.questions)
                ends = [min(301, number + rng.choice((1, 1, 2, 5, 9, 10, 30))) for _ in range(3)]
                rows.append(("ask", name, tuple(rng.choice(ends) for _ in range(kind[-1] + (kind[0] == "count")))))
            booklet = Booklet(form, rows)
            # So long that many arrows have just as many signs as a line, or one more.
            tongue = tongue_of(form, words=("g" * rng.randint(1, 6), "p" * rng.randint(1, 7), "end", "any", "and"))
            for width in (24, 25, 26):
                press = Press(booklet, tongue, width=width, height=12)
                wanted = layout_by_words(booklet, tongue, width, 12)
                if isinstance(wanted, int):
                    self.assert_error(TooTall(wanted), press.layout)
                    continue
                self.assertEqual(press.layout(), wanted)
                first = paged_by_words(all_rows_by_words(booklet, tongue, (1,) * 300, width), 12)
                moved += first != wanted
                self.assertGreater(wanted[-1], 99)
        self.assertGreater(moved, 8)

    def test_a_form_that_fills_its_pages(self):
        press = press_of(width=60, height=5)
        self.assert_error(TooTall(1), press.layout)
        small = Form([ask("a", ("count", 0, 9)), ask("b", ("count", 0, 9))])
        self.assertEqual(Press(least_booklet(small), tongue_of(small), height=5).layout(), (1, 1))
        three = Form([ask(name, ("count", 0, 9)) for name in "abc"])
        self.assertEqual(Press(least_booklet(three), tongue_of(three), height=5).layout(), (1, 1, 2))


class TwoTongues(LeafCase):
    def test_one_booklet_in_two_tongues(self):
        other = tongue_of(
            HOUSE, words=OTHER_WORDS, numerals=OTHER_NUMERALS, texts={name: ("Frage nach " + name,) for name in HOUSE.names},
            labels={"own": ("nein", "ja", "wer es ist, sagt niemand hier im Haus"), "pets": ("k", "h", "f"), "last": ("n", "j")},
        )
        one, two = press_of(width=24, height=10), Press(BOOKLET, other, width=24, height=10)
        self.assertEqual(two.printed()[0][0], "= seite 1 =")
        self.assertEqual(two.layout(), layout_by_words(BOOKLET, other, 24, 10))
        self.assertEqual(one.layout(), layout_by_words(BOOKLET, TONGUE, 24, 10))
        self.assertNotEqual(one.layout(), two.layout())


class Large(LeafCase):
    def test_400_rows(self):
        form = form_of_rows(2)
        booklet = least_booklet(form)
        self.assertEqual(len(booklet), 400)
        press = Press(booklet, tongue_of(form), width=24, height=60)
        begun = time.perf_counter()
        pages, printed = press.layout(), press.printed()
        self.assertLess(time.perf_counter() - begun, 10)
        self.assertEqual(pages, layout_by_words(booklet, press.tongue, 24, 60))
        self.assertEqual(printed, printed_by_words(booklet, press.tongue, pages, 24))

    def test_400_rows_with_many_arrows(self):
        form = Form([ask("a", ("count", 0, 99)), ask("b", ("count", 0, 99))])
        rows = []
        for number in range(1, 401):
            ends = [min(401, number + 1 + (answer * number) % 40 * 3) for answer in range(100)]
            rows.append(("ask", "ab"[number % 2], tuple(ends)))
        booklet = Booklet(form, rows)
        press = Press(booklet, tongue_of(form), width=80, height=60)
        begun = time.perf_counter()
        try:
            pages = press.layout()
        except TooTall as error:
            pages = error.row
        self.assertLess(time.perf_counter() - begun, 20)
        self.assertEqual(pages, layout_by_words(booklet, press.tongue, 80, 60))


if __name__ == "__main__":
    unittest.main()
