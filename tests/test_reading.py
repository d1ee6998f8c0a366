"""Promises k03, k07, k08, points [4], [6], [8], [11], [12]: texts that are read, and the first wrong word."""

import random
import unittest

from slipleaf.conditions import WORDS
from slipleaf.errors import BadLine, BadUse, LeafError, TooLong, TooMany, Twice, Unknown
from slipleaf.forms import Form
from slipleaf.reading import read_condition, read_form, read_items
from slipleaf.writing import write_items
from tests.helper import ALWAYS, LeafCase, ask, nots
from tests.test_conditions import CONDITIONS
from tests.texts import random_items, random_words

FIGURES = [str(number) for number in (*range(20), 20, 98, 99, 100, 495, 496)]
CANDIDATES = ("always", "to", ")", "or", "a", "b", "c", "d", "e", "f", "pick", *FIGURES, "end")

# Conditions with the number of their first wrong word, the missing one included.
WRONG_CONDITIONS = (
    ("", 1), ("   ", 1), ("never", 1), ("Always", 1), ("a", 1), ("when", 1), ("3", 1), (")", 1), ("and", 1),
    ("#", 1), ("(always", 1), ("asked( a", 1), ("to", 1), ("(", 2), ("()", 1), ("( )", 2),
    ("always always", 2), ("always )", 2), ("always and always", 2), ("always when", 2), ("always 3", 2),
    ("asked", 2), ("asked asked", 2), ("asked A", 2), ("asked a6", 2), ("asked a0", 2), ("asked a11", 2),
    ("asked abcdefghi", 2), ("asked abcdefghi1", 2), ("asked 1", 2), ("asked to", 2), ("asked a b", 3),
    ("asked a1 1", 3), ("asked (", 2), ("asked when", 2), ("asked wasn't", 2),
    ("is", 2), ("is a", 3), ("is a b", 3), ("is a 16", 3), ("is a -1", 3), ("is a 01", 3), ("is a 00", 3),
    ("is a 1_0", 3), ("is a +1", 3), ("is a 0 0", 4), ("is a 3 2", 4), ("is a 3 3", 4), ("is a 15 15", 4),
    ("is a 15 16", 4), ("is a 1 2 16", 5), ("is a 0 1 2 3 4 5 6 7 8 9 10 11 12 13 14 15", 18), ("is a 1 05", 4),
    ("is a 1 and", 4), ("is a 1 b", 4), ("is 1 1", 2), ("is a 1 1000000", 4), ("is a " + "9" * 19000, 3),
    ("has", 2), ("has a", 3), ("has a 4", 3), ("has a -1", 3), ("has a 0 1", 4), ("has a b", 3), ("has 0 0", 2),
    ("from", 2), ("from a", 3), ("from a 100", 3), ("from a 99", 4), ("from a 99 98", 4), ("from a 3 2", 4),
    ("from a 3 100", 4), ("from a 3 03", 4), ("from a 3 3 3", 5), ("from a 03 3", 3), ("from a to 3", 3),
    ("sum", 2), ("sum to", 2), ("sum to 0 1", 2), ("sum a", 3), ("sum a 0", 3), ("sum a a", 3), ("sum a b a", 4),
    ("sum a b c d a", 6), ("sum a b c d e f", 7), ("sum a b c d e to", 8), ("sum a b c d e a", 7), ("sum a to", 4),
    ("sum a to 496", 4), ("sum a to 495", 5), ("sum a to 495 494", 5), ("sum a to 5 4", 5), ("sum a to 5 496", 5),
    ("sum a to 0 1 2", 6), ("sum a1 a1", 3), ("sum a b1 b c1 to to", 7), ("sum a to b", 4), ("sum a and", 3),
    ("sum A", 2), ("sum a to 00", 4), ("sum a to 0495", 4),
    ("same", 2), ("same a", 3), ("same a a", 3), ("same a1 a1", 3), ("same a b c", 4), ("same a 1", 3), ("same 1 a", 2),
    ("same a to", 3), ("same a b6", 3),
    ("not", 2), ("not not", 3), ("not a", 2), ("not always not", 3), ("not )", 2), ("not and", 2),
    ("( always", 3), ("( always )", 3), ("( always and", 4), ("( always and )", 4), ("( always and always", 5),
    ("( always and always or", 5), ("( always or always and always )", 5), ("( always and always ) )", 6),
    ("( always and always ) and", 6), ("( always always", 3), ("( and", 2), ("( always not always )", 3),
    ("( always or always always", 5), ("( is a 1 2 3 or is a 1 1", 11), ("( is a 1 2 2", 6), ("( is a 1 )", 5),
    ("( always" + " and always" * 5 + " and", 13), ("( always" + " or always" * 5, 13),
    ("( always" + " or always" * 6 + " )", 13), ("( ( always or always ) and always", 9),
    ("( ( always or always ) )", 7), ("not ( always and always", 6),
)
KIDS = "ask kids count 0 2\n"
FOUR = "part always\n" * 4

# Texts with the line and the number of their first wrong word.
WRONG_TEXTS = (
    ("never", 1, 1), ("\n\nalways", 3, 1), ("# rooms\nask heat pick 9", 2, 4), ("ask", 1, 2), ("ask Own", 1, 2),
    ("ask own", 1, 3), ("ask own 3", 1, 3), ("ask own pick", 1, 4), ("ask own pick 1", 1, 4), ("ask own pick 7", 1, 4),
    ("ask own pick 02", 1, 4), ("ask own pick 2 3", 1, 5), ("ask own pick 2 always", 1, 5),
    ("ask own pick 2 # told", 1, 5), ("ask own pick 2 when", 1, 6), ("ask own pick 2 when when", 1, 6),
    ("ask own pick 2 when always when", 1, 7), ("ask own pick 2 when is own 1 1", 1, 9),
    ("ask own tick 1", 1, 4), ("ask own tick 5", 1, 4), ("ask own tick", 1, 4), ("ask own tick 4 4", 1, 5),
    ("ask own count", 1, 4), ("ask own count 99", 1, 4), ("ask own count 99 100", 1, 4), ("ask own count 98", 1, 5),
    ("ask own count 98 98", 1, 5), ("ask own count 98 100", 1, 5), ("ask own count 5 5", 1, 5),
    ("ask own count 5 4", 1, 5), ("ask own count 0", 1, 5), ("ask own count 0 0", 1, 5), ("ask own count 0 1 2", 1, 6),
    ("ask own count 100", 1, 4), ("ask own count -1", 1, 4), ("ask ask pick 2", 1, 2), ("ask a6 pick 2", 1, 2),
    ("ask own PICK 2", 1, 3), ("ask own when always", 1, 3), ("ask pick 2", 1, 2), ("ASK own pick 2", 1, 1),
    ("check", 1, 2), ("check c", 1, 3), ("check C always", 1, 2), ("check c when always", 1, 3),
    ("check c always always", 1, 4), ("check always", 1, 2), ("check c1 never", 1, 3), ("check c sum a a", 1, 5),
    ("twice", 1, 2), ("twice a", 1, 3), ("twice a b c", 1, 4), ("twice a when", 1, 3), ("twice a6 b", 1, 2),
    ("twice a b0", 1, 3), ("twice A b", 1, 2), ("twice a B", 1, 3), ("twice a always", 1, 3),
    ("part", 1, 2), ("part never", 1, 2), ("part always always", 1, 3), ("part when always", 1, 2),
    ("each", 1, 2), ("each A", 1, 2), ("each a b", 1, 3), ("each a6", 1, 2), ("each always", 1, 2), ("each 1", 1, 2),
    ("end", 1, 1), ("end end", 1, 1), ("part always\nend\nend", 3, 1), ("part always\nend end", 2, 2),
    ("part always\nend part", 2, 2), ("each a\nend a", 2, 2), ("ask a pick 2\nend", 2, 1),
    ("part always", 2, 1), ("each a", 2, 1), ("part always\n", 3, 1), ("part always\n\n# end\n  ", 5, 1),
    ("part always\npart always\nend", 4, 1), ("each a\npart always\nend\n", 5, 1), ("part always\nend\neach b", 4, 1),
    ("part always\nnever", 2, 1), ("part always\nask a", 2, 3), ("part asked", 1, 3),
    (KIDS + "each kids\neach kids", 3, 1), (KIDS + "each kids\npart always\neach kids", 4, 1),
    (KIDS + "part always\neach kids\npart always\neach kids", 5, 1), ("each a\nend\neach a\neach a", 4, 1),
    (KIDS + "each kids\nask a1 pick 2", 3, 2), (KIDS + "each kids\ncheck a1 always", 3, 2),
    (KIDS + "each kids\ntwice a1 b1", 3, 3), (KIDS + "each kids\npart always\nask a1 pick 2", 4, 2),
    (KIDS + "each kids\ntwice a6 b1", 3, 2), (KIDS + "each kids\nask a1", 3, 2), (KIDS + "part always\nask a1", 3, 3),
    (KIDS + "each kids\npart always\nend\ntwice a b2", 5, 3), (KIDS + "each kids\nend\nask a1 pick 9", 4, 4),
    (FOUR + "part always", 5, 1), (FOUR + "each a", 5, 1), (FOUR + "end\neach a\neach a", 7, 1),
    (FOUR + "ask a pick 2", 6, 1), (FOUR + "end\npart always\npart always", 7, 1), (FOUR + "\n\nparts", 7, 1),
    ("each a\n" + FOUR, 5, 1), ("each a\npart always\npart always\npart always\npart always\nend", 5, 1),
    (FOUR, 6, 1), ("#\n  # a\n#b c\nnever", 4, 1), ("part always\n #\nend\n#\nend", 5, 1),
    ("ask a pick 2\n\n\nask", 4, 2),
    ("  ask   own   pick   9  ", 1, 4), ("ask own pick 2\n" * 50 + "ask own pick", 51, 4), ("endpart", 1, 1),
)


def complete(text, tries=60):
    """Return a right text that begins with this one; each word is the first that moves the wrong word on."""
    for _ in range(tries):
        try:
            read_items(text)
            return text
        except BadLine as error:
            spot = (error.line, error.word)
        further = [text + " " + word for word in CANDIDATES] + [text + "\nend"]
        text = next(more for more in further if moves_on(more, spot))
    raise AssertionError(text)


def moves_on(text, spot):
    """Tell whether nothing is wrong at this word of this line, nor ahead of it."""
    try:
        read_items(text)
    except BadLine as error:
        return (error.line, error.word) > spot
    return True


def cut(text, line, word):
    """Return the text ahead of a word of a line."""
    lines = text.split("\n")
    words = [part for part in lines[line - 1].split(" ") if part] if line <= len(lines) else []
    return "\n".join(lines[:line - 1] + [" ".join(words[:word - 1])])


class Conditions(LeafCase):
    def test_blanks_do_not_matter(self):
        for condition, text in CONDITIONS:
            self.assertEqual(read_condition(text), condition)
            self.assertEqual(read_condition("   " + text.replace(" ", "   ") + " "), condition)

    def test_example(self):
        condition = ("or", ("is", "heat", (0, 2)), ("not", ("asked", "heat")))
        self.assertEqual(read_condition("( is heat 0 2 or not asked heat )"), condition)

    def test_bounds(self):
        for text, condition in (
            ("is a 15", ("is", "a", (15,))), ("is a 0 15", ("is", "a", (0, 15))), ("has a 3", ("has", "a", 3)),
            ("from a 0 0", ("from", "a", 0, 0)), ("from a 99 99", ("from", "a", 99, 99)),
            ("sum a to 495 495", ("sum", ("a",), 495, 495)),
            ("sum a1 a2 a3 a4 a5 to 0 0", ("sum", ("a1", "a2", "a3", "a4", "a5"), 0, 0)),
            ("same a a1", ("same", "a", "a1")), ("asked abcdefgh5", ("asked", "abcdefgh5")),
            ("is a " + " ".join(str(number) for number in range(15)), ("is", "a", tuple(range(15)))),
            ("is a " + " ".join(str(number) for number in range(1, 16)), ("is", "a", tuple(range(1, 16)))),
            ("( always" + " or always" * 5 + " )", ("or",) + (ALWAYS,) * 6),
        ):
            self.assertEqual(read_condition(text), condition)

    def test_wrong(self):
        for text, word in WRONG_CONDITIONS:
            with self.subTest(text[:80]):
                self.assert_error(BadLine(1, word), read_condition, text)
                self.assert_error(BadLine(1, word + 2), read_items, "check c " + text)
                self.assert_error(BadLine(2, word + 5), read_items, "#\nask c pick 2 when  " + text)
                self.assert_error(BadLine(1, word + 1), read_items, "part " + text + "\nend")

    def test_words_of_the_language_are_no_names(self):
        for word in WORDS:
            self.assert_error(BadLine(1, 2), read_condition, "asked " + word)
            self.assert_error(BadLine(1, 2), read_items, f"ask {word} pick 2")


class Length(LeafCase):
    def test_longest(self):
        self.assertEqual(read_condition("not " * 119 + "always"), nots(119))
        self.assertEqual(read_condition("not " * 118 + "asked a"), nots(118, ("asked", "a")))
        self.assertEqual(read_condition("not " * 114 + "sum a to 0 9"), nots(114, ("sum", ("a",), 0, 9)))
        self.assertEqual(read_condition("not " * 115 + "( always and always )"), nots(115, ("and", ALWAYS, ALWAYS)))
        items = (ask("a"), ask("b", ("pick", 2), nots(119)), ("check", "c", nots(119)), ("part", nots(119), ()))
        self.assertEqual(read_items(write_items(items)), items)

    def test_the_121st_word_is_wrong(self):
        for text in (
            "not " * 120 + "always", "not " * 120, "not " * 119 + "asked a", "not " * 200, "not " * 118 + "asked a b",
            "( " * 121, "( " * 120, "( " * 120 + "always",
            "not " * 117 + "( always and always )", "not " * 116 + "( always and always )",
            "not " * 117 + "is a 1 2", "not " * 117 + "is a 1 1", "not " * 116 + "is a 1 2 3",
            "not " * 114 + "sum a b to 0 99 1",
            "not " * 116 + "sum a b to", "not " * 117 + "sum a b to 0 1", "not " * 117 + "same a b c",
            "not " * 118 + "same a a",
            "not " * 119 + "always always", "( " + "not " * 117 + "always and always )",
        ):
            with self.subTest(text.replace("not not ", "")):
                self.assert_error(BadLine(1, 121), read_condition, text)
                self.assert_error(BadLine(3, 123), read_items, "\n\n check c1 " + text + "\nnever")
                self.assert_error(BadLine(1, 126), read_items, "ask own pick 2 when " + text)
                self.assert_error(BadLine(1, 127), read_items, "ask own count 0 9 when " + text)
                self.assert_error(BadLine(1, 122), read_items, "part " + text)

    def test_no_earlier_word_is_wrong_for_its_length(self):
        # None of these could be completed with 120 words.
        for text, word in (
            ("not " * 118 + "same", 120), ("( " * 60 + "always", 62), ("( always and " * 39 + "sum", 119),
            ("( " * 119, 120), ("not " * 117 + "from a", 120),
        ):
            self.assert_error(BadLine(1, word), read_condition, text)
        self.assert_error(BadLine(1, 120), read_condition, "not " * 118 + "always )")
        self.assert_error(BadLine(1, 120), read_condition, "not " * 117 + "same a a")

    def test_each_condition_counts_by_itself(self):
        long = "not " * 119 + "always"
        lines = ["part " + long, f"ask a pick 2 when {long}", f"check c {long}", f"ask b tick 2 when {long}", "end"]
        self.assertEqual(len(read_items("\n".join(lines))[0][2]), 3)


class Items(LeafCase):
    def test_all_lines(self):
        text = (
            "# a house\n\n  ask own pick 6 when always\n ask pets1 tick 4\n#ask pets2 tick 4\nask kids   count 98 99 \n"
            "check own asked own\n # kids\npart has pets1 3\n  each kids\n ask own tick 2 when asked own1\n end\n\n"
            "end\ntwice own own\n   \ntwice own1 b5"
        )
        self.assertEqual(read_items(text), (
            ask("own", ("pick", 6)), ask("pets1", ("tick", 4)), ask("kids", ("count", 98, 99)),
            ("check", "own", ("asked", "own")),
            ("part", ("has", "pets1", 3), (("each", "kids", (ask("own", ("tick", 2), ("asked", "own1")),)),)),
            ("twice", "own", "own"), ("twice", "own1", "b5"),
        ))

    def test_says_nothing(self):
        for text in ("", " ", "\n", "\n\n \n", "#", "# end", "  #end\n#", "#ask a pick 2", "##\n\n#"):
            self.assertEqual(read_items(text), ())
            self.assertEqual(read_form(text), Form(()))

    def test_four_within_one_another(self):
        four = (("part", ALWAYS, (("each", "a", (("part", ALWAYS, (("part", ALWAYS, ()),)),)),)),)
        self.assertEqual(read_items("part always\neach a\npart always\npart always\nend\nend\nend\nend"), four)
        inner = (ask("a1"),)
        for _ in range(4):
            inner = (("part", ALWAYS, inner),)
        self.assertEqual(read_items(FOUR + "ask a1 pick 2\n" + "end\n" * 4), inner)
        self.assertEqual(read_items("each a\nend\neach a\nend"), (("each", "a", ()), ("each", "a", ())))

    def test_wrong(self):
        for text, line, word in WRONG_TEXTS:
            with self.subTest(text[-80:]):
                self.assert_error(BadLine(line, word), read_items, text)
                self.assert_error(BadLine(line, word), read_form, text)
                if line <= text.count("\n") + 1:
                    self.assert_error(BadLine(line, word), read_items, text + "\nnever\nask a pick 9")

    def test_ahead_of_the_wrong_word_all_is_right(self):
        for text, line, word in WRONG_TEXTS:
            self.assertIs(type(complete(cut(text, line, word))), str)
        rng = random.Random(1)
        for _ in range(150):
            text = write_items(random_items(rng))
            lines = text.split("\n")
            line = rng.randrange(len(lines))
            words = lines[line].split(" ")
            words[rng.randrange(len(words)):][:0] = [rng.choice((*CANDIDATES, *WORDS))]
            at = rng.randrange(len(words) + 1)
            words[at:at + rng.randint(0, 1)] = [rng.choice((*CANDIDATES, *WORDS))] * rng.randint(0, 1)
            lines[line] = " ".join(words)
            text = "\n".join(lines)
            try:
                items = read_items(text)
            except BadLine as error:
                ahead = cut(text, error.line, error.word)
                self.assertTrue(complete(ahead).startswith(ahead))
                self.assertFalse(moves_on(text, (error.line, error.word)))
            else:
                self.assertEqual(read_items(write_items(items)), items)

    def test_a_right_text_cut_anywhere(self):
        lines = [
            "part is own1 0 1", "  each kids", "    ask a count 0 9 when ( sum a b to 0 1 or not same a b )", "  end",
            "end",
            "twice a b",
        ]
        self.assertEqual(len(read_items("\n".join(lines))), 2)
        for line, words in enumerate([one.split() for one in lines], start=1):
            for word in range(1, len(words) + 1):
                ahead = lines[:line - 1] + [" ".join(words[:word - 1] + ["Wrong"] + words[word:])] + lines[line:]
                self.assert_error(BadLine(line, word), read_items, "\n".join(ahead))

    def test_long_texts(self):
        text = "\n".join(["ask a count 10 20"] * 1000)
        self.assertEqual(read_items(text), (ask("a", ("count", 10, 20)),) * 1000)
        self.assert_error(BadLine(1, 1), read_items, "x" * 20000)
        self.assert_error(BadLine(1, 4), read_items, "ask a pick " + "2" * 19000)
        self.assertEqual(read_items("\n" * 20000), ())


class Forms(LeafCase):
    def test_source_is_what_is_read(self):
        text = "ask kids count 0 2\neach kids\nask age count 0 9\nend"
        self.assertEqual(read_form(text).source, read_items(text))
        self.assertEqual(read_form(text).names, ("kids", "age1", "age2"))
        self.assertEqual(read_form(text), Form(read_items(text)))

    def test_what_8_tells_is_behind_the_reading(self):
        for error, text in (
            (Twice("a"), "ask a pick 2\nask a pick 2"), (Unknown("b"), "ask a pick 2 when asked b"),
            (Unknown("a"), "each a\nend"), (BadUse("a"), "ask a pick 2\neach a\nend"), (Unknown("x"), "twice x x"),
            (BadUse("a"), "ask a pick 2\ncheck c is a 2"), (Twice("b"), "ask a pick 2\ntwice a b\ncheck b always"),
            (TooLong("b"), "ask a pick 2\npart " + "not " * 119 + "always\nask b pick 2 when asked a\nend"),
            (TooMany("question"), "\n".join(f"ask {a}{b} pick 2" for a in "abcdefg" for b in "abcdef")),
            (TooMany("check"), "\n".join(f"check {a}{b} always" for a in "abcdefg" for b in "abc")),
            (TooMany("standing"), "ask a count 0 99\nask b count 0 99\ncheck c same a b"),
        ):
            with self.subTest(text[:60]):
                self.assert_error(error, read_form, text)
                self.assertIs(type(read_items(text)), tuple)
                line = text.count("\n") + 2
                self.assert_error(BadLine(line, 1), read_form, text + "\nnever")

    def test_read_again(self):
        rng = random.Random(2)
        for _ in range(200):
            condition = random_words(rng)
            text = write_items((("check", "c", condition),))
            self.assertEqual(read_condition(text.removeprefix("check c ")), condition)

    def test_errors_are_leaf_errors(self):
        with self.assertRaises(LeafError):
            read_form("never")
        with self.assertRaises(ValueError):
            read_form("never")


if __name__ == "__main__":
    unittest.main()
