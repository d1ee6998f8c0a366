"""Promises k47, k48, k80 and k94, points [11], [32] to [36]: reading back what was printed, and what was spoilt."""

import unittest

from slipleaf.arrows import least_booklet
from slipleaf.booklets import Booklet
from slipleaf.errors import BadPrint, BadSize, TooTall, Unlike
from slipleaf.forms import Form
from slipleaf.judging import fault
from slipleaf.kinds import answers_of
from slipleaf.pressing import Press
from slipleaf.readback import read_back
from slipleaf.reading import read_form
from tests.helper import ODD_THINGS, LeafCase, ask
from tests.makers import OTHER_NUMERALS, OTHER_WORDS, WORDS, random_texts, right_booklet, tongue_of
from tests.oracle import random_form, seeded
from tests.print_oracle import read_by_words
from tests.test_arrows import form_of_rows
from tests.test_pressing import BOOKLET, HOUSE, TONGUE

PRINT = Press(BOOKLET, TONGUE, width=60, height=9).printed()


def with_line(page, line, told):
    """Return the print of the house with one line exchanged for others."""
    pages = [list(lines) for lines in PRINT]
    pages[page - 1][line - 1:line] = told
    return pages


def random_booklet(rng, form):
    """Return a booklet of rows that ask, with any arrows."""
    if not len(form):
        return Booklet(form, ())
    many, rows = rng.randint(0, 12), []
    for number in range(1, many + 1):
        name, kind, _ = rng.choice(form.questions)
        ends = rng.sample(range(number + 1, many + 2), min(many + 1 - number, rng.randint(1, 4)))
        rows.append(("ask", name, tuple(rng.choice(ends) for _ in answers_of(kind))))
    return Booklet(form, rows)


def spoilt(rng, pages):
    """Return pages that are spoilt somewhere."""
    pages = [list(lines) for lines in pages]
    page = rng.choice(pages)
    at = rng.randrange(len(page))
    act = rng.choice(("drop", "double", "swap", "sign", "sign", "sign", "number", "number", "page", "push", "turn"))
    if act == "drop":
        del page[at]
    elif act == "double":
        page.insert(at, page[at])
    elif act == "swap":
        other = rng.randrange(len(page))
        page[at], page[other] = page[other], page[at]
    elif act == "sign" and page[at]:
        spot = rng.randrange(len(page[at]))
        page[at] = page[at][:spot] + rng.choice(("", " ", "a", "1", "9", ":", ",", "-", "[")) + page[at][spot + rng.randint(0, 1):]
    elif act == "number":
        page[at] = "".join(rng.choice("0123456789") if sign.isdigit() and rng.random() < 0.4 else sign for sign in page[at])
    elif act == "page":
        pages.insert(rng.randint(0, len(pages)), rng.choice(([], ["= page 1 ="], list(page))))
    elif act == "push" and len(pages) > 1:
        spot = rng.randrange(len(pages) - 1)
        pages[spot + 1:spot + 2] = [pages[spot + 1][:1] + pages[spot][-1:] + pages[spot + 1][1:]]
        del pages[spot][-1]
    elif act == "turn":
        pages.reverse()
    return pages


class ReadBack(LeafCase):
    def test_example(self):
        self.assertEqual(read_back(HOUSE, TONGUE, PRINT), (BOOKLET.rows, (1, 2, 2, 3)))
        self.assertEqual(read_back(HOUSE, TONGUE, [list(page) for page in PRINT], width=60)[0], BOOKLET.rows)

    def test_no_pages(self):
        for form in (HOUSE, Form(())):
            self.assertEqual(read_back(form, tongue_of(form), ()), ((), ()))
            self.assertEqual(read_back(form, tongue_of(form), [], width=24), ((), ()))

    def test_at_any_width_and_height(self):
        read = 0
        for rng in seeded(200):
            form = random_form(rng)
            booklet = right_booklet(rng, form) if rng.random() < 0.4 else random_booklet(rng, form)
            tongue = tongue_of(form, texts=random_texts(rng, form))
            press = Press(booklet, tongue, width=rng.randint(24, 80), height=rng.choice((8, 12, 20, 60)))
            try:
                pages = press.printed()
            except TooTall:
                continue
            self.assertEqual(read_back(form, tongue, pages, width=press.width), (booklet.rows, press.layout()))
            self.assertEqual(read_by_words(form, tongue, pages, press.width), (booklet.rows, press.layout()))
            read += len(booklet)
        self.assertGreater(read, 200)

    def test_all_widths(self):
        for width in range(24, 81):
            press = Press(BOOKLET, TONGUE, width=width, height=20)
            self.assertEqual(read_back(HOUSE, TONGUE, press.printed(), width=width), (BOOKLET.rows, press.layout()))

    def test_rows_of_the_least_booklet_lead_right(self):
        for rng in seeded(60):
            form = random_form(rng)
            tongue = tongue_of(form)
            pages = Press(least_booklet(form), tongue, width=30, height=15).printed()
            rows, _ = read_back(form, tongue, pages, width=30)
            self.assertEqual(rows, least_booklet(form).rows)
            self.assertIsNone(fault(Booklet(form, rows)))

    def test_words_that_are_like_others(self):
        for words in (("end", "end", "end", "end", "end"), ("to", "to", "to", "aa", "to"), ("a", "a", "a", "ab", "a"),
                      ("page", "end", "page", "end", "x"), ("q", "q", "c", "cc", "q")):
            for rng in seeded(20):
                form = random_form(rng)
                booklet, tongue = random_booklet(rng, form), tongue_of(form, words=words)
                pages = Press(booklet, tongue, width=24, height=60).printed()
                self.assertEqual(read_back(form, tongue, pages, width=24)[0], booklet.rows)

    def test_texts_that_are_like_other_lines(self):
        form = read_form("ask a pick 2\nask b count 0 9")
        tongue = tongue_of(
            form, texts={"a": ("> a: goto 2, page 1    1. Q1",), "b": (" 2. Q2 = page 1 =", "")},
            labels={"a": ("> a: end", "[b] x")},
        )
        booklet = Booklet(form, [("ask", "a", (3, 3)), ("ask", "b", (3,) * 10), ("ask", "b", (4,) * 10)])
        for width in (24, 26, 80):
            pages = Press(booklet, tongue, width=width, height=60).printed()
            self.assertEqual(read_back(form, tongue, pages, width=width), (booklet.rows, (1, 1, 1)))

    def test_400_rows(self):
        form = form_of_rows(2)
        booklet, tongue = least_booklet(form), tongue_of(form)
        press = Press(booklet, tongue, width=24, height=60)
        self.assertEqual(read_back(form, tongue, press.printed(), width=24), (booklet.rows, press.layout()))

    def test_one_booklet_in_two_tongues(self):
        for rng in seeded(40):
            form = random_form(rng)
            booklet = right_booklet(rng, form)
            one = tongue_of(form, texts=random_texts(rng, form))
            two = tongue_of(form, texts=random_texts(rng, form), words=OTHER_WORDS, numerals=OTHER_NUMERALS)
            for tongue, other in ((one, two), (two, one)):
                press = Press(booklet, tongue, width=rng.randint(24, 80), height=60)
                pages = press.printed()
                self.assertEqual(read_back(form, tongue, pages, width=press.width), (booklet.rows, press.layout()))
                if pages:
                    self.assert_error(BadPrint(0), read_back, form, other, pages, width=press.width)


class Spoilt(LeafCase):
    def test_errors_in_order(self):
        other = tongue_of(Form([ask("own")]))
        self.assert_error(Unlike(), read_back, HOUSE, other, PRINT, width=0)
        for width in ODD_THINGS + (23, 81):
            with self.assertRaises(BadSize) as caught:
                read_back(HOUSE, TONGUE, [[]], width=width)
            self.assertIs(caught.exception.number, width)
        self.assert_error(BadPrint(1), read_back, HOUSE, TONGUE, with_line(1, 2, ["1. Q9 x"]) + [["= page 4 =", "4"]])
        self.assert_error(BadPrint(0), read_back, HOUSE, TONGUE, with_line(1, 2, ["1. Q9 x"]) + [["= page 5 =", "4"]])
        with self.assertRaises(TypeError):
            read_back(HOUSE, TONGUE, PRINT, 60)

    def test_wrong_pages(self):
        for pages in (
            [[]], [["= page 1 ="]], [["= page 1 =", ""]], [["= page 1 =", "  > a"]], [["= page 2 =", "1. Q1"]],
            [["= page 01 =", "1. Q1"]], [["= PAGE 1 =", "1. Q1"]], [["= page 1 = ", "1. Q1"]], [["1. Q1"]], PRINT[1:],
            PRINT[:1] + PRINT[2:], PRINT + PRINT[:1], PRINT + ((),), PRINT + (("= page 4 =",),), [["", "1. Q1"]],
            [["= page 1 =", " 1. Q1"]], with_line(2, 2, []), with_line(3, 1, ["= seite 3 ="]), [["= page 1 =", "x1. Q1"]],
        ):
            self.assert_error(BadPrint(0), read_back, HOUSE, TONGUE, pages)

    def test_wrong_rows(self):
        for page, line, told, row in (
            (1, 2, ["1. Q1 What about"], 1), (1, 2, ["2. Q1 What about own"], 1), (1, 2, ["1. Q01 What about own"], 1),
            (1, 2, ["1. Q5 What about own"], 1), (1, 2, ["1. Q0 What about own"], 1), (1, 2, ["1 Q1 What about own"], 1),
            (1, 2, ["1. Q2 What about own"], 1), (1, 2, ["1. Q1  What about own"], 1), (1, 2, ["1. Q"], 1), (1, 2, ["1"], 1),
            (1, 2, ["1. Q1 What about own "], 1), (1, 2, ["1. Q1 What about", "    own"], 1), (1, 3, [], 1),
            (1, 3, ["  [b] own no 0"], 1), (1, 5, ["  [c] own no 2", "  [d] own no 3"], 1), (1, 3, ["  [a] own no 0", ""], 1),
            (1, 6, ["  > a, c: goto 3, page 2", "x"], 1), (1, 6, ["  > c, a: goto 3, page 2"], 1),
            (1, 6, ["  > a, c: goto 2, page 2"], 1), (1, 6, ["  > a, c: goto 1, page 1"], 1), (1, 6, ["  > a, c: goto 5, page 2"], 1),
            (1, 6, ["  > a, c: goto 6, page 2"], 1), (1, 6, ["  > a, c: goto 03, page 2"], 1), (1, 6, ["  > a, c: goto 3, page 02"], 1),
            (1, 6, ["  > a, c: goto 3, page 0"], 1), (1, 6, ["  > a, c: goto 3, page 1000"], 1), (1, 6, ["  > a, c: goto 3,page 2"], 1),
            (1, 6, ["  > a, c: goto 3, page"], 1), (1, 6, ["  > a, c goto 3, page 2"], 1), (1, 6, ["  > : goto 3, page 2"], 1),
            (1, 6, ["  > a, a: goto 3, page 2"], 1), (1, 6, ["  > a, d: goto 3, page 2"], 1), (1, 6, ["  > a,c: goto 3, page 2"], 1),
            (1, 6, ["  > a, b, c: goto 3, page 2"], 1), (1, 6, ["  > a, c: goto 3, page 2 "], 1), (1, 6, ["    a, c: end"], 1),
            (1, 6, ["  > a: goto 3, page 2", "  > c: goto 3, page 2"], 1), (1, 6, ["  > a: end", "  > c: goto 3, page 2"], 1),
            (1, 6, ["  > a: goto 3, page 2", "  > a: end"], 1), (1, 6, ["  > any: goto 3, page 2", "  > c: end"], 1),
            (1, 6, ["  > a, c:", "    goto 3, page 2"], 1), (1, 6, ["  > a, c: end", "    "], 1), (1, 6, ["  >"], 1), (1, 6, ["  > "], 1),
            (2, 2, ["1. Q2 What about pets"], 2), (2, 6, ["2. Q3 What about kids"], 3), (2, 7, ["  [ ]"], 3), (2, 7, [], 3),
            (2, 7, ["  [  ]", "  > 0-10: end"], 3), (2, 7, ["  [  ]", "  > 4-4: end"], 3), (2, 7, ["  [  ]", "  > 4, 5: end"], 3),
            (2, 7, ["  [  ]", "  > 5-4: end"], 3), (2, 7, ["  [  ]", "  > 04: end"], 3), (2, 7, ["  [  ]", "  > 0-9: end"], 3),
            (2, 7, ["  [  ]", "  > 0-99999999999999: end"], 3), (2, 7, ["  [  ]", "  > -4: end"], 3), (2, 7, ["  [  ]", "  > 4-: end"], 3),
            (2, 7, ["  [  ]", "  > 1: goto 4, page 3"], 3), (3, 4, ["  [b] last no 1", "  > a: end"], 4), (3, 2, ["9"], 4),
            (3, 4, ["  [b] last no 1", "5. Q1"], 5), (3, 4, ["  [b] last no 1", "5. Q3 What about kids", "  [  ]", "7"], 6),
        ):
            pages = with_line(page, line, told)
            self.assertEqual(read_by_words(HOUSE, TONGUE, pages, 60), row, told)
            self.assert_error(BadPrint(row), read_back, HOUSE, TONGUE, pages)

    def test_other_rows_that_are_right(self):
        for page, line, told, at, row in (
            (1, 6, ["  > a, c: end"], 1, ("ask", "own", (5, 2, 5))), (1, 6, [], 1, ("ask", "own", (2, 2, 2))),
            (1, 6, ["  > any: end"], 1, ("ask", "own", (5, 5, 5))),
            (1, 6, ["  > a: goto 3, page 2", "  > b: goto 4, page 3", "  > c: end"], 1, ("ask", "own", (3, 4, 5))),
            (2, 7, ["  [  ]", "  > 0, 2-4, 9: end"], 3, ("ask", "kids", (5, 4, 5, 5, 5, 4, 4, 4, 4, 5))),
            (2, 5, ["  [c] pets no 2", "  > b, a+b, a+b+c: goto 4, page 3"], 2, ("ask", "pets", (3, 4, 4, 3, 3, 3, 4))),
        ):
            rows, pages = read_back(HOUSE, TONGUE, with_line(page, line, told))
            self.assertEqual((rows[at - 1], pages), (row, (1, 2, 2, 3)))

    def test_wrong_pages_named_go_last(self):
        wrong = with_line(1, 6, ["  > a, c: goto 3, page 3"])
        self.assert_error(BadPrint(1), read_back, HOUSE, TONGUE, wrong)
        self.assert_error(BadPrint(1), read_back, HOUSE, TONGUE, with_line(1, 6, ["  > a, c: goto 3, page 999"]))
        wrong[2][3] = "  [b] last no 2"
        self.assert_error(BadPrint(4), read_back, HOUSE, TONGUE, wrong)
        for page, row in (("0", 1), ("1000", 1), ("02", 1), ("999", 4), ("1", 4), ("2", 4)):
            wrong[0][5] = f"  > a, c: goto 3, page {page}"
            self.assert_error(BadPrint(row), read_back, HOUSE, TONGUE, wrong)
        self.assert_error(BadPrint(2), read_back, HOUSE, TONGUE, with_line(
            2, 5, ["  [c] pets no 2", "  > b, a+b, a+b+c: goto 4, page 2"]))
        # The same rows on other pages.
        pushed = [list(PRINT[0]), list(PRINT[1][:5]), ["= page 3 ="] + list(PRINT[1][5:]), ["= page 4 ="] + list(PRINT[2][1:])]
        self.assert_error(BadPrint(1), read_back, HOUSE, TONGUE, pushed)
        pushed[0][5] = "  > a, c: goto 3, page 3"
        self.assertEqual(read_back(HOUSE, TONGUE, pushed)[1], (1, 2, 3, 4))

    def test_another_width(self):
        tongue = tongue_of(HOUSE, texts={name: ("What is it",) for name in HOUSE.names[:3]} | {"last": ("You may now " * 3,)})
        pages = Press(BOOKLET, tongue, width=24, height=20).printed()
        self.assert_error(BadPrint(4), read_back, HOUSE, tongue, pages, width=40)
        self.assertEqual(read_back(HOUSE, tongue, pages, width=24)[0], BOOKLET.rows)

    def test_spoilt_somewhere(self):
        told = {}
        for rng in seeded(1500):
            form = random_form(rng, rng.randint(1, 4))
            booklet = random_booklet(rng, form)
            tongue = tongue_of(form, texts=random_texts(rng, form), words=rng.choice((WORDS, ("a", "b", "c", "dd", "e"))))
            width = rng.choice((24, 30, 60))
            try:
                pages = Press(booklet, tongue, width=width, height=rng.choice((8, 12, 30))).printed()
            except TooTall:
                continue
            if not pages:
                continue
            pages = spoilt(rng, pages)
            kept = [list(lines) for lines in pages]
            wanted = read_by_words(form, tongue, pages, width)
            if isinstance(wanted, int):
                self.assert_error(BadPrint(wanted), read_back, form, tongue, pages, width=width)
            else:
                self.assertEqual(read_back(form, tongue, pages, width=width), wanted)
            self.assertEqual(pages, kept)
            told[wanted if wanted in (0, 1, 2, 3) else "right"] = True
        self.assertEqual(set(told), {0, 1, 2, 3, "right"})


if __name__ == "__main__":
    unittest.main()
