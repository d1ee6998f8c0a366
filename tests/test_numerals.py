"""Promises k33 and k34, points [1] and [26]: numerals."""

import inspect
import unittest

from slipleaf.errors import BadNumber, BadNumerals
from slipleaf.numerals import Numerals
from tests.helper import ODD_THINGS, Agreeing, LeafCase
from tests.makers import NUMERALS, TENS, UNITS


def with_word(words, at, word):
    """Return a list of words with one exchanged."""
    told = list(words)
    told[at] = word
    return told


class Written(LeafCase):
    def test_tens_first(self):
        for number, text in (
            (0, "zero"), (1, "one"), (10, "ten"), (19, "nineteen"), (20, "twenty"), (21, "twenty-one"), (29, "twenty-nine"),
            (30, "thirty"), (75, "seventy-five"), (90, "ninety"), (99, "ninety-nine"),
        ):
            self.assertEqual(NUMERALS(number), text)

    def test_units_first(self):
        numerals = Numerals(UNITS, TENS, first="units", joiner="and")
        self.assertEqual((numerals(21), numerals(40), numerals(13)), ("oneandtwenty", "forty", "thirteen"))
        bare = Numerals(list(UNITS), list(TENS), first="tens", joiner="")
        self.assertEqual((bare(21), bare(99)), ("twentyone", "ninetynine"))
        wide = Numerals(UNITS, TENS, joiner=" -  -")
        self.assertEqual(wide(99), "ninety -  -nine")

    def test_no_number(self):
        for thing in ODD_THINGS + (-1, 100, -100, "5"):
            with self.assertRaises(BadNumber) as caught:
                NUMERALS(thing)
            self.assertIs(caught.exception.number, thing)

    def test_reads(self):
        for number in range(100):
            self.assertEqual(NUMERALS.reads(NUMERALS(number)), (number,))
        for text in ("", "twenty-", "twenty-ten", "twenty one", "hundred", "Twenty"):
            self.assertEqual(NUMERALS.reads(text), ())
        alike = Numerals(["a"] * 20, ["b"] * 8, joiner="")
        self.assertEqual(alike.reads("a"), tuple(range(20)))
        self.assertEqual(alike.reads("b"), tuple(range(20, 100, 10)))


class Twins(LeafCase):
    def test_plain(self):
        self.assertIs(NUMERALS.plain, True)
        self.assertEqual(list(NUMERALS.twins()), [])
        self.assertTrue(inspect.isgenerator(NUMERALS.twins()))

    def test_twins(self):
        # "twenty" and "one" joined by nothing is the word of 40 here.
        numerals = Numerals(UNITS, with_word(TENS, 2, "twentyone"), joiner="")
        self.assertEqual(list(numerals.twins()), [(21, 40)])
        self.assertIs(numerals.plain, False)
        self.assertEqual(numerals.reads("twentyone"), (21, 40))

    def test_all_pairs_ascending(self):
        numerals = Numerals(with_word(with_word(UNITS, 3, "one"), 0, "one"), with_word(TENS, 7, "twenty"))
        wanted = [(a, b) for a in range(100) for b in range(a + 1, 100) if numerals(a) == numerals(b)]
        self.assertEqual(list(numerals.twins()), wanted)
        self.assertEqual(wanted[:4], [(0, 1), (0, 3), (1, 3), (20, 90)])
        self.assertIs(numerals.plain, False)

    def test_equality(self):
        self.assertEqual(NUMERALS, Numerals(list(UNITS), TENS, first="tens", joiner="-"))
        for other in (
            Numerals(UNITS, TENS, joiner=" "), Numerals(UNITS, TENS, first="units"),
            Numerals(with_word(UNITS, 19, "x"), TENS), Numerals(UNITS, with_word(TENS, 7, "x")), None, NUMERALS(0), 5,
        ):
            self.assertNotEqual(NUMERALS, other)
            self.assertFalse(NUMERALS == other)
        # Other words that write all numbers alike.
        one = Numerals(["a"] * 20, ["a"] * 8, first="tens", joiner="")
        two = Numerals(("a",) * 20, ("a",) * 8, first="units", joiner="")
        self.assertTrue(one == two)


class Wrong(LeafCase):
    def test_lists(self):
        for units, tens in (
            (UNITS[:19], TENS), (UNITS + ("x",), TENS), (UNITS, TENS[:7]), (UNITS, TENS + ("x",)), ("a" * 20, TENS),
            (UNITS, "abcdefgh"), (dict.fromkeys(UNITS), TENS), (None, TENS), (UNITS, None), (5, 5), ([], []),
            (UNITS[:19], with_word(TENS, 0, "")), (with_word(UNITS, 0, ""), TENS[:7]),
        ):
            self.assert_error(BadNumerals(-1), Numerals, units, tens)
            self.assert_error(BadNumerals(-1), Numerals, units, tens, first="", joiner="123456")

    def test_words(self):
        odd = [thing for thing in ODD_THINGS if thing != "pick" or isinstance(thing, Agreeing)]
        for word in odd + ["", "abcdefghijklm", "Two", "two ", "tw-o", "two3", "z\n", "%", b"two", "tw\xf6"]:
            for at in (0, 7, 19):
                self.assert_error(BadNumerals(at), Numerals, with_word(UNITS, at, word), TENS, first="x")
            for at in (0, 7):
                self.assert_error(BadNumerals(20 + at), Numerals, UNITS, with_word(TENS, at, word), joiner="x1")
        self.assertEqual(Numerals(with_word(UNITS, 0, "abcdefghijkl"), TENS)(0), "abcdefghijkl")
        self.assertEqual(Numerals(with_word(UNITS, 0, "ask"), with_word(TENS, 0, "a"))(20), "a")
        self.assert_error(BadNumerals(5), Numerals, with_word(UNITS, 5, "5"), with_word(TENS, 0, "5"))

    def test_first_and_joiner(self):
        for first in ("", "ten", "Tens", None, 1, ("tens",), b"tens", Agreeing()):
            self.assert_error(BadNumerals(28), Numerals, UNITS, TENS, first=first, joiner=None)
        for joiner in ("abcdef", "      ", "a1", "_", "\n", "A", None, 5, (" ",), [], b"-", "%"):
            self.assert_error(BadNumerals(29), Numerals, UNITS, TENS, joiner=joiner)
        self.assertEqual(Numerals(UNITS, TENS, joiner="a - b")(21), "twentya - bone")

    def test_lists_that_are_changed_behind_the_call(self):
        units, tens = list(UNITS), list(TENS)
        numerals = Numerals(units, tens)
        units[1], tens[0] = "x", "y"
        self.assertEqual((numerals, numerals(21)), (NUMERALS, "twenty-one"))
        del units[:]
        self.assertEqual(numerals(1), "one")


if __name__ == "__main__":
    unittest.main()
