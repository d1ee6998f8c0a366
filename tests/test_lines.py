"""Promise k41, points [1] and [32]: paragraphs broken at a width."""

import random
import unittest

from slipleaf.errors import BadSize
from slipleaf.lines import broken
from tests.helper import ODD_THINGS, LeafCase


def broken_by_words(head, body, width):
    """Return the lines of a paragraph, as the words of [32] tell them."""
    words = []
    for stretch in body.split():
        while len(stretch) > 12:
            words.append(stretch[:12])
            stretch = stretch[12:]
        words.append(stretch)
    lines, taken = [], []
    for word in words:
        start = head if not lines else "    "
        if len(start + " ".join(taken + [word])) > width:
            lines.append(start + " ".join(taken))
            taken = []
        taken.append(word)
    lines.append((head if not lines else "    ") + " ".join(taken))
    return tuple(line.rstrip() for line in lines)


class Broken(LeafCase):
    def test_examples(self):
        text = "How many rooms has the house in which you live"
        self.assertEqual(broken("7. Q3 ", text, 24), (
            "7. Q3 How many rooms has", "    the house in which", "    you live",
        ))
        self.assertEqual(broken("7. Q3 ", text, 80), ("7. Q3 " + text,))
        self.assertEqual(broken("  [a] ", "", 24), ("  [a]",))
        self.assertEqual(broken("", "", 24), ("",))
        self.assertEqual(broken("7. Q3 ", "   ", 24), ("7. Q3",))
        self.assertEqual(broken("  > ", "  a   b ", 24), ("  > a b",))

    def test_words_of_more_than_12_signs_are_cut(self):
        self.assertEqual(broken("1. Q1 ", "a" * 12, 80), ("1. Q1 " + "a" * 12,))
        self.assertEqual(broken("1. Q1 ", "a" * 13, 80), ("1. Q1 " + "a" * 12 + " a",))
        self.assertEqual(broken("1. Q1 ", "b" + "a" * 24, 24), ("1. Q1 b" + "a" * 11, "    " + "a" * 12 + " a"))
        self.assertEqual(broken("h", "x" * 600, 80)[0], "h" + " ".join(["x" * 12] * 6))

    def test_a_line_is_filled_to_the_width(self):
        self.assertEqual(broken("400. Q40 ", "a" * 12 + " bb", 24), ("400. Q40 " + "a" * 12 + " bb",))
        self.assertEqual(broken("400. Q40 ", "a" * 12 + " bbb", 24), ("400. Q40 " + "a" * 12, "    bbb"))
        self.assertEqual(broken("", " ".join(["abcd"] * 5), 24), ("abcd abcd abcd abcd abcd",))
        self.assertEqual(broken("", " ".join(["abcd"] * 6), 24)[1], "    abcd")

    def test_as_the_words_tell(self):
        rng = random.Random(7)
        for _ in range(400):
            body = "".join(rng.choice("abc/, (1)   ") for _ in range(rng.randint(0, 120)))
            body = body + "x" * rng.choice((0, 0, 11, 12, 13, 24, 25, 40))
            head = rng.choice(("", "1. Q1 ", "400. Q40 ", "  [f] ", "  > ", "          "))
            width = rng.choice((24, 25, 30, 60, 79, 80))
            lines = broken(head, body, width)
            self.assertEqual(lines, broken_by_words(head, body, width))
            self.assertLessEqual(max(len(line) for line in lines), width)

    def test_bad_widths(self):
        for width in ODD_THINGS + (23, 81, 0, -24, "24", 24.0, True):
            with self.assertRaises(BadSize) as caught:
                broken("", "", width)
            self.assertIs(caught.exception.number, width)


if __name__ == "__main__":
    unittest.main()
