"""Promise k73, points [1] to [3], [44], [56], [59]: entries and their lines."""

import unittest

from slipleaf.entries import entry_line, is_entry, read_line
from slipleaf.errors import BadEntry
from slipleaf.issues import Issue
from slipleaf.reading import read_form
from tests.book_oracle import line_by_words, random_entries
from tests.helper import ODD_THINGS, LeafCase
from tests.makers import random_issue
from tests.oracle import random_form, seeded

HOUSE = read_form("ask own pick 2\nask rent count 5 20 when is own 1\nask heat tick 3\nask kids count 0 9 when has heat 0")
ISSUE = Issue.made(HOUSE, 3)
STRIKE = ("strike", 7)


def with_sum(text):
    """Return the line with this text ahead of its sum."""
    return f"{text} ={sum(map(ord, text)) % 97:02d}\n"


class Entries(LeafCase):
    def test_right_ones(self):
        for clerk in ("a", "z", "ann", "abcdef", "none", "ask"):
            self.assertIs(is_entry(ISSUE, (clerk, 3, 12, STRIKE)), True)
        for number in (0, 1, 9999):
            self.assertIs(is_entry(ISSUE, ("ann", number, 12, STRIKE)), True)
        for day in (0, 1, 999):
            self.assertIs(is_entry(ISSUE, ("ann", 3, day, STRIKE)), True)
        for deed in (
            ("strike", 1), ("return", 999), ("page", 1, 1, (0, 5, 7)), ("page", 999, 1, (-1, -1, -1)), ("page", 3, 1, (-2, 99, -1)),
            ("page", 3, 2, (0,)), ("letter", 1, ("own",), (-3,)), ("letter", 1, ("rent", "kids"), (99, -2)),
            ("letter", 1, ("own", "rent", "heat", "kids"), (1, 5, 7, 9)), ("note", 1, "own", None), ("note", 1, "own", 1),
            ("note", 1, "rent", 5), ("note", 1, "rent", 20), ("note", 1, "heat", 7),
        ):
            self.assertIs(is_entry(ISSUE, ("ann", 3, 12, deed)), True, deed)

    def test_wrong_ones(self):
        for thing in ODD_THINGS + (["ann", 3, 12, STRIKE], ("ann", 3, 12), ("ann", 3, 12, STRIKE, 1)):
            self.assertIs(is_entry(ISSUE, thing), False)
            # "pick" is a word of six letters or less.
            self.assertIs(is_entry(ISSUE, (thing, 3, 12, STRIKE)), type(thing) is str and thing.isalpha())
            self.assertIs(is_entry(ISSUE, ("ann", thing, 12, STRIKE)), False)
            self.assertIs(is_entry(ISSUE, ("ann", 3, thing, STRIKE)), False)
            self.assertIs(is_entry(ISSUE, ("ann", 3, 12, thing)), False)
            self.assertIs(is_entry(ISSUE, ("ann", 3, 12, (thing, 7))), False)
            self.assertIs(is_entry(ISSUE, ("ann", 3, 12, ("page", 7, 1, thing))), False)
            self.assertIs(is_entry(ISSUE, ("ann", 3, 12, ("page", 7, thing, (0, 5, 7)))), False)
            self.assertIs(is_entry(ISSUE, ("ann", 3, 12, ("page", 7, 2, (thing,)))), False)
            self.assertIs(is_entry(ISSUE, ("ann", 3, 12, ("letter", 7, thing, (1,)))), False)
            self.assertIs(is_entry(ISSUE, ("ann", 3, 12, ("letter", 7, (thing,), (1,)))), False)
            self.assertIs(is_entry(ISSUE, ("ann", 3, 12, ("letter", 7, ("own",), (thing,)))), False)
            self.assertIs(is_entry(ISSUE, ("ann", 3, 12, ("note", 7, thing, 1))), False)
            if thing != (1,):
                self.assertIs(is_entry(ISSUE, ("ann", 3, 12, ("letter", 7, ("own",), thing))), False)
            if thing is not None:
                self.assertIs(is_entry(ISSUE, ("ann", 3, 12, ("note", 7, "own", thing))), False)
        for thing in ODD_THINGS + (0, 1000, -1, 10 ** 29):
            for deed in (("strike", thing), ("return", thing), ("page", thing, 2, (0,)), ("letter", thing, ("own",), (1,)), ("note", thing, "own", 1)):
                self.assertIs(is_entry(ISSUE, ("ann", 3, 12, deed)), False)

    def test_bounds(self):
        for clerk in ("", "abcdefg", "Ann", "a1", "a b", "ann ", "a-b"):
            self.assertIs(is_entry(ISSUE, (clerk, 3, 12, STRIKE)), False)
        for number in (-1, 10000):
            self.assertIs(is_entry(ISSUE, ("ann", number, 12, STRIKE)), False)
        for day in (-1, 1000):
            self.assertIs(is_entry(ISSUE, ("ann", 3, day, STRIKE)), False)
        for deed in (
            ("strike",), ("strike", 7, 1), ("return", 7, None), ("Strike", 7), ["strike", 7], ("sheet", 7, 1, (0, 5, 7)),
            ("page", 7, 0, ()), ("page", 7, 3, (0,)), ("page", 7, 1, (0, 5)), ("page", 7, 1, (0, 5, 7, 0)), ("page", 7, 1, [0, 5, 7]),
            ("page", 7, 1, (0, 5, None)), ("page", 7, 1, (0, 5, 8)), ("page", 7, 1, (2, 5, 7)), ("page", 7, 1, (0, 100, 7)),
            ("page", 7, 1, (-3, 5, 7)), ("page", 7, 1), ("page", 7, 1, (0, 5, 7), 0), ("letter", 7, (), ()), ("letter", 7, ["own"], (1,)),
            ("letter", 7, ("own",), [1]), ("letter", 7, ("own", "own"), (1, 1)), ("letter", 7, ("rent", "own"), (5, 1)),
            ("letter", 7, ("own",), (2,)), ("letter", 7, ("own",), (-4,)), ("letter", 7, ("own",), (1, 1)), ("letter", 7, ("x",), (1,)),
            ("letter", 7, ("own",)), ("note", 7, "own"), ("note", 7, "own", 2), ("note", 7, "own", -1), ("note", 7, "rent", 4),
            ("note", 7, "x", 1), ("note", 7, "own", 1, 2), ("note", 7, "rent", 21),
        ):
            self.assertIs(is_entry(ISSUE, ("ann", 3, 12, deed)), False, deed)
            self.assert_error(BadEntry(), entry_line, ISSUE, ("ann", 3, 12, deed))


class Lines(LeafCase):
    def test_by_hand(self):
        for entry, line in (
            (("ann", 3, 12, ("strike", 7)), "ann 3 12 strike 7 =47\n"),
            (("a", 0, 0, ("return", 999)), with_sum("a 0 0 return 999")),
            (("bob", 9999, 999, ("page", 1, 1, (-2, 99, -1))), with_sum("bob 9999 999 page 1 1 -2 99 -1")),
            (("bob", 1, 1, ("letter", 12, ("own", "kids"), (-3, 10))), with_sum("bob 1 1 letter 12 own -3 kids 10")),
            (("bob", 1, 1, ("note", 12, "rent", None)), with_sum("bob 1 1 note 12 rent none")),
            (("bob", 1, 1, ("note", 12, "rent", 15)), with_sum("bob 1 1 note 12 rent 15")),
        ):
            self.assertEqual(entry_line(ISSUE, entry), line)
            self.assertEqual(read_line(ISSUE, line), entry)

    def test_two_figures(self):
        lines = [entry_line(ISSUE, ("ann", number, 12, STRIKE)) for number in range(200)]
        self.assertTrue(any("=0" in line for line in lines))
        self.assertEqual({len(line.split("=")[1]) for line in lines}, {3})

    def test_by_the_words(self):
        for rng in seeded(80):
            form = random_form(rng)
            issue = random_issue(rng, form)
            for entry in random_entries(rng, issue, 10):
                self.assertIs(is_entry(issue, entry), True)
                line = entry_line(issue, entry)
                self.assertEqual(line, line_by_words(entry))
                self.assertEqual(read_line(issue, line), entry)

    def test_bad_entries(self):
        for thing in ODD_THINGS + (("ann", 3, 12), ["ann", 3, 12, STRIKE]):
            self.assert_error(BadEntry(), entry_line, ISSUE, thing)


class WrongLines(LeafCase):
    def test_other_texts(self):
        good = "ann 3 12 strike 7 =47\n"
        for line in (
            "", "\n", " ", good[:-1], good + "\n", " " + good, good[:-1] + " \n", "ann  3 12 strike 7 =47\n", good[:-1] + "x",
            "ann 3 12 strike 7 =46\n", "ann 3 12 strike 7 =4\n", "ann 3 12 strike 7 =047\n", "ann 3 12 strike 7 47\n", "ann 3 12 strike 7 = 47\n",
            "ann 3 12 strike 7\n", "ann 3 12 strike\n", "ann 3 12\n", "ann 3 12 strike 7 =47", "ann 3 12 strike 7 =47 =47\n",
            "ann 3 12 strike 7 =47\n\n", "=47\n", "ann 3 12 strike 7 =-47\n",
        ):
            self.assertIsNone(read_line(ISSUE, line), repr(line))
        self.assertEqual(read_line(ISSUE, good), ("ann", 3, 12, STRIKE))

    def test_texts_with_right_sums(self):
        for text in (
            "ann 03 12 strike 7", "ann 3 012 strike 7", "ann 3 12 strike 07", "ann -0 12 strike 7", "ann +3 12 strike 7", "ann 3 12 strike 0",
            "ann 3 12 strike 1000", "ann 10000 12 strike 7", "ann 3 1000 strike 7", "Ann 3 12 strike 7", "abcdefg 3 12 strike 7",
            " 3 12 strike 7", "ann 3 12 strike 7 8", "ann 3 12 strike 7 ", "ann 3 12 page 7", "ann 3 12 page 7 1", "ann 3 12 page 7 1 0 5",
            "ann 3 12 page 7 1 0 5 7 0", "ann 3 12 page 7 1 0 5 none", "ann 3 12 page 7 1 0 05 7", "ann 3 12 page 7 3 0", "ann 3 12 letter 7",
            "ann 3 12 letter 7 own", "ann 3 12 letter 7 own 1 rent", "ann 3 12 letter 7 rent 5 own 1", "ann 3 12 letter 7 own 1 own 1",
            "ann 3 12 letter 7 own none", "ann 3 12 letter 7 own -4", "ann 3 12 letter 7 own --1", "ann 3 12 note 7 own", "ann 3 12 note 7 own 2",
            "ann 3 12 note 7 own x", "ann 3 12 note 7 own None", "ann 3 12 note 7 own none none", "ann 3 12 note 7 x none", "ann 3 12 note 7 own 1 2",
            "ann 3 12 note 7 own -1", "ann 3 12 return", "ann 3 12 Strike 7", "ann 3 12 sheet 7 1 0 5 7", "ann 3 12 strike seven",
            "ann " + "9" * 5000 + " 12 strike 7", "ann 3 12 strike 7 \n", "ann 3\n12 strike 7",
        ):
            self.assertIsNone(read_line(ISSUE, with_sum(text)), text)
        self.assertEqual(read_line(ISSUE, with_sum("ann 3 12 letter 7 own -3")), ("ann", 3, 12, ("letter", 7, ("own",), (-3,))))

    def test_each_changed_sign(self):
        line = entry_line(ISSUE, ("ann", 3, 12, ("letter", 7, ("own", "rent"), (1, 15))))
        for at in range(len(line)):
            for sign in "a1 -=\n":
                changed = line[:at] + sign + line[at + 1:]
                entry = read_line(ISSUE, changed)
                if entry is not None:
                    self.assertEqual(line_by_words(entry), changed)
                self.assertIsNone(read_line(ISSUE, line[:at]))

    def test_a_name_that_is_none(self):
        form = read_form("ask none pick 2\nask b pick 2 when is none 1")
        issue = Issue.made(form)
        for deed in (("note", 1, "none", 0), ("note", 1, "b", None), ("letter", 1, ("none", "b"), (0, -3))):
            entry = ("none", 0, 0, deed)
            self.assertEqual(read_line(issue, entry_line(issue, entry)), entry)


if __name__ == "__main__":
    unittest.main()
