"""Promises [1], [4], [5], of [11] the words and the length, and slipleaf/conditions.py."""

import copy
import unittest

from slipleaf.conditions import (
    WORDS, holds, is_condition, is_full_name, is_name, length_of, names_in, renamed,
)
from slipleaf.errors import BadCondition
from tests.helper import ALWAYS, ODD_THINGS, LeafCase, deep, nots

TOLD_WORDS = (
    "ask check twice part each end pick tick count when always asked is has from sum to same not and or"
)
# Each with its length as it is written.
CONDITIONS = (
    (("always",), "always"),
    (("asked", "own"), "asked own"),
    (("asked", "own5"), "asked own5"),
    (("is", "own", (0,)), "is own 0"),
    (("is", "own", (15,)), "is own 15"),
    (("is", "own", (0, 2, 15)), "is own 0 2 15"),
    (("is", "own", tuple(range(1, 16))), "is own 1 2 3 4 5 6 7 8 9 10 11 12 13 14 15"),
    (("is", "own", tuple(range(15))), "is own 0 1 2 3 4 5 6 7 8 9 10 11 12 13 14"),
    (("has", "pets", 0), "has pets 0"),
    (("has", "pets", 3), "has pets 3"),
    (("from", "kids", 0, 0), "from kids 0 0"),
    (("from", "kids", 99, 99), "from kids 99 99"),
    (("from", "kids", 0, 99), "from kids 0 99"),
    (("sum", ("a",), 0, 0), "sum a to 0 0"),
    (("sum", ("a", "b"), 495, 495), "sum a b to 495 495"),
    (("sum", ("a", "b", "c", "d", "e"), 0, 495), "sum a b c d e to 0 495"),
    (("sum", ("a", "a1", "a2"), 7, 8), "sum a a1 a2 to 7 8"),
    (("same", "a", "b"), "same a b"),
    (("same", "a", "a1"), "same a a1"),
    (("not", ("always",)), "not always"),
    (("and", ("always",), ("asked", "a")), "( always and asked a )"),
    (("or", ("always",), ("asked", "a")), "( always or asked a )"),
    (("and",) + (ALWAYS,) * 6, "( always and always and always and always and always and always )"),
    (("or",) + (ALWAYS,) * 6, "( always or always or always or always or always or always )"),
    (("or", ("is", "heat", (0, 2)), ("not", ("asked", "heat"))), "( is heat 0 2 or not asked heat )"),
)
NO_CONDITIONS = (
    (), ("always", 1), ("always", ()), ["always"], "always", ("Always",), ("never",), ("",), (None,), (b"always",),
    ("asked",), ("asked", "own", "b"), ("asked", "Own"), ("asked", "is"), ("asked", ("own",)), ("asked", None),
    ["asked", "own"], ("asked", "own6"), ("asked", "own0"), ("asked", ""), ("asked", "abcdefghi"),
    ("is",), ("is", "own"), ("is", "own", 0), ("is", "own", ()), ("is", "own", [0]), ("is", "own", (0,), (1,)),
    ("is", "own", (16,)), ("is", "own", (-1,)), ("is", "own", (1, 1)), ("is", "own", (1, 0)), ("is", "own", (0, 2, 1)),
    ("is", "own", (True,)), ("is", "own", (False, 1)), ("is", "own", ("0",)), ("is", "own", (None,)),
    ("is", "own", tuple(range(16))), ("is", "own", tuple(range(17))), ("is", "is", (0,)), ("is", ("own",), (0,)),
    ("is", "own", (10 ** 29,)), ("is", "own", ((0,),)), ("is", "own", "0"),
    ("has", "own"), ("has", "own", 4), ("has", "own", -1), ("has", "own", True), ("has", "own", (0,)),
    ("has", "own", 0, 1), ("has", "Own", 0), ("has", "own", None), ("has", "own", "0"),
    ("from", "own", 0), ("from", "own", 1, 0), ("from", "own", -1, 0), ("from", "own", 0, 100),
    ("from", "own", 100, 100), ("from", "own", 0, True), ("from", "own", False, 1), ("from", "own", 0, 1, 2),
    ("from", "own", (0, 1)), ("from", 1, 0, 1), ("from", "own", "0", "1"), ("from", "own", None, 3),
    ("sum", (), 0, 1), ("sum", "a", 0, 1), ("sum", ["a"], 0, 1), ("sum", ("a", "a"), 0, 1), ("sum", ("a",), 1, 0),
    ("sum", ("a",), 0, 496), ("sum", ("a",), -1, 0), ("sum", ("a",), 496, 496), ("sum", ("a",), 0),
    ("sum", ("a",), 0, 1, 2), ("sum", ("a", "b", "c", "d", "e", "f"), 0, 1), ("sum", ("a", "to"), 0, 1),
    ("sum", ("a", "b", "a"), 0, 1), ("sum", ("a", ("b",)), 0, 1), ("sum", ("a", None), 0, 1), ("sum", ("a", []), 0, 1),
    ("sum", ("a",), True, 1), ("sum", ("a",), 0, True), ("sum",),
    ("same", "a"), ("same", "a", "a"), ("same", "a", "b", "c"), ("same", "a", "B"), ("same", "A", "b"),
    ("same", "a1", "a1"), ("same", ("a", "b")), ("same", "a", None), ("same", "a", ["b"]),
    ("not",), ("not", "always"), ("not", ALWAYS, ALWAYS), ("not", ["always"]), ("not", ()), ("not", None),
    ("and",), ("and", ALWAYS), ("and",) + (ALWAYS,) * 7, ("and", ALWAYS, ["always"]), ["and", ALWAYS, ALWAYS],
    ("and", ALWAYS, "always"), ("and", (ALWAYS, ALWAYS)), ("and", ("never",), ALWAYS), ("and", ALWAYS, ("never",)),
    ("or",), ("or", ALWAYS), ("or",) + (ALWAYS,) * 7, ("or", ALWAYS, ["always"]), ["or", ALWAYS, ALWAYS],
    ("or", ALWAYS, None), ("or", ALWAYS, 1), ("or", (ALWAYS, ALWAYS)), ("xor", ALWAYS, ALWAYS),
    deep(130), ("not", deep(129)), deep(129, ALWAYS), ("asked", deep(129)), ("is", "own", deep(129)),
    ("is", "own", (0, deep(128))), ("sum", (deep(128),), 0, 1), ("from", "own", deep(129), 3),
)


def with_words(count):
    """Return conditions of so many words, each built in another way."""
    return (
        nots(count - 1),
        nots(count - 2, ("asked", "own1")),
        nots(count - 17, ("is", "own", tuple(range(15)))),
        nots(count - 3, ("has", "own", 3)),
        nots(count - 4, ("from", "own", 0, 99)),
        nots(count - 9, ("sum", ("a", "b", "c", "d", "e"), 0, 495)),
        nots(count - 3, ("same", "a", "b")),
        nots(count - 5, ("and", ALWAYS, ALWAYS)),
        nots(count - 13, ("or",) + (ALWAYS,) * 6),
        ("and", nots(count - 6), ("asked", "a")),
        ("or", ("asked", "a"), nots(count - 6)),
        ("or", nots(count - 22, ("and", ALWAYS, ALWAYS)), ("is", "a", tuple(range(10))), ALWAYS),
    )


class Names(LeafCase):
    def test_words(self):
        self.assertEqual(WORDS, tuple(TOLD_WORDS.split()))

    def test_names(self):
        for name in ("a", "z", "own", "abcdefgh", "zzzzzzzz", "iss", "i", "none", "row", "qk", "t"):
            with self.subTest(name):
                self.assertIs(is_name(name), True)
                self.assertIs(is_full_name(name), True)

    def test_names_with_a_digit(self):
        for name in ("a1", "a2", "a3", "a4", "a5", "abcdefgh1", "abcdefgh5", "iss1"):
            with self.subTest(name):
                self.assertIs(is_name(name), False)
                self.assertIs(is_full_name(name), True)

    def test_no_names(self):
        words = [word + digit for word in WORDS for digit in ("", "1", "5")]
        things = (
            *words, "", "1", "5", "a0", "a6", "a9", "a11", "1a", "a1b", "a12", "abcdefghi", "abcdefghi1",
            "A", "aB", "Own", "own ", " own", "o wn", "own\n", "a1\n", "own-", "own_", "a.",
            "(", ")", "\u00e9", "\uff41",
            "a\u0661", "a\u00b2", "a" * 20000, b"own", ["own"], ("own",), ("o", "w"), ["a"],
        )
        for thing in (*things, *ODD_THINGS, deep(130)):
            with self.subTest(repr(thing)[:60]):
                self.assertIs(is_name(thing), False)
                self.assertIs(is_full_name(thing), False)


class Built(LeafCase):
    def test_is_condition(self):
        for condition, _ in CONDITIONS:
            with self.subTest(condition):
                self.assertIs(is_condition(condition), True)

    def test_is_no_condition(self):
        for thing in (*NO_CONDITIONS, *ODD_THINGS):
            with self.subTest(repr(thing)[:60]):
                self.assertIs(is_condition(thing), False)

    def test_no_condition_inside(self):
        for thing in (*NO_CONDITIONS, *ODD_THINGS):
            with self.subTest(repr(thing)[:60]):
                self.assertIs(is_condition(("not", thing)), False)
                self.assertIs(is_condition(("and", ALWAYS, thing)), False)
                self.assertIs(is_condition(("or", thing, ALWAYS)), False)

    def test_length_as_written(self):
        for condition, text in CONDITIONS:
            with self.subTest(text):
                self.assertEqual(length_of(condition), len(text.split()))

    def test_length_of_the_whole(self):
        parts = tuple(condition for condition, _ in CONDITIONS[:6])
        words = " and ".join(text for _, text in CONDITIONS[:6]).split()
        self.assertEqual(length_of(("and",) + parts), len(words) + 2)
        self.assertEqual(length_of(("not", ("or",) + parts)), len(words) + 3)

    def test_length_at_its_bound(self):
        for count in (119, 120):
            for condition in with_words(count):
                self.assertIs(is_condition(condition), True)
                self.assertEqual(length_of(condition), count)
        for count in (121, 122):
            for condition in with_words(count):
                self.assertIs(is_condition(condition), False)
                self.assert_error(BadCondition(), length_of, condition)

    def test_deep_and_wide(self):
        self.assertIs(is_condition(nots(119)), True)
        self.assertIs(is_condition(nots(129)), False)
        shared = ALWAYS
        for _ in range(128):
            shared = ("and",) + (shared,) * 6
        self.assertIs(is_condition(shared), False)
        self.assertIs(is_condition(("or",) + (ALWAYS,) * 5000), False)
        self.assertIs(is_condition(("is", "a", tuple(range(5000)))), False)

    def test_bad_condition(self):
        for thing in (*NO_CONDITIONS, *ODD_THINGS, nots(120), nots(129)):
            with self.subTest(repr(thing)[:60]):
                self.assert_error(BadCondition(), length_of, thing)
                self.assert_error(BadCondition(), names_in, thing)
                self.assert_error(BadCondition(), holds, thing, {})
                self.assert_error(BadCondition(), renamed, thing, {})


class NamesIn(LeafCase):
    def test_of_each_word(self):
        for condition, names in (
            (ALWAYS, ()), (("asked", "a1"), ("a1",)), (("is", "a", (1, 2)), ("a",)), (("has", "a", 2), ("a",)),
            (("from", "a", 1, 2), ("a",)), (("sum", ("b", "a", "c2"), 1, 2), ("b", "a", "c2")),
            (("same", "b", "a"), ("b", "a")), (("not", ("asked", "a")), ("a",)),
        ):
            with self.subTest(condition):
                self.assertEqual(names_in(condition), names)
                self.assertIs(type(names_in(condition)), tuple)

    def test_as_they_stand_each_as_often(self):
        condition = (
            "or", ("asked", "z"), ("and", ("same", "b", "a"), ALWAYS, ("sum", ("a", "z"), 0, 9)),
            ("not", ("not", ("has", "b", 0))), ("is", "z", (0,)), ("from", "c", 0, 1),
        )
        self.assertEqual(names_in(condition), ("z", "b", "a", "a", "z", "b", "z", "c"))

    def test_deep(self):
        self.assertEqual(names_in(nots(118, ("asked", "own"))), ("own",))


class Holds(LeafCase):
    def assert_holds(self, wanted, condition, **told):
        self.assertIs(holds(condition, told), wanted)
        self.assertIs(holds(("not", condition), told), not wanted)

    def test_example(self):
        self.assertIs(holds(("sum", ("kids", "dogs"), 1, 3), {"kids": 2, "dogs": None}), True)

    def test_always(self):
        self.assert_holds(True, ALWAYS)
        self.assert_holds(True, ALWAYS, a=None)

    def test_asked(self):
        self.assert_holds(True, ("asked", "a"), a=0)
        self.assert_holds(True, ("asked", "a"), a=3)
        self.assert_holds(False, ("asked", "a"), a=None)
        self.assert_holds(False, ("asked", "a"))
        self.assert_holds(False, ("asked", "a"), b=1)

    def test_is(self):
        for value in range(16):
            self.assert_holds(value in (0, 2, 15), ("is", "a", (0, 2, 15)), a=value)
        self.assert_holds(False, ("is", "a", (0, 2)), a=None)
        self.assert_holds(False, ("is", "a", (0, 2)))

    def test_has(self):
        for value in range(1, 16):
            for box in range(4):
                self.assert_holds(value // 2 ** box % 2 == 1, ("has", "a", box), a=value)
        self.assert_holds(False, ("has", "a", 0), a=None)
        self.assert_holds(False, ("has", "a", 0))

    def test_from(self):
        for value in range(100):
            self.assert_holds(3 <= value <= 7, ("from", "a", 3, 7), a=value)
            self.assert_holds(True, ("from", "a", 0, 99), a=value)
            self.assert_holds(value == 5, ("from", "a", 5, 5), a=value)
        self.assert_holds(False, ("from", "a", 0, 99), a=None)
        self.assert_holds(False, ("from", "a", 0, 99))

    def test_sum(self):
        condition = ("sum", ("a", "b", "c"), 5, 9)
        for a in (None, 0, 1, 4, 5):
            for b in (None, 0, 4):
                for c in (None, 0, 1, 5):
                    total = (a or 0) + (b or 0) + (c or 0)
                    self.assert_holds(5 <= total <= 9, condition, a=a, b=b, c=c)
        self.assert_holds(False, condition)
        self.assert_holds(True, ("sum", ("a", "b"), 0, 4))
        self.assert_holds(True, ("sum", ("a", "b"), 0, 0), a=None)
        self.assert_holds(True, ("sum", ("a", "b", "c", "d", "e"), 495, 495), a=99, b=99, c=99, d=99, e=99)

    def test_same(self):
        self.assert_holds(True, ("same", "a", "b"), a=3, b=3)
        self.assert_holds(False, ("same", "a", "b"), a=3, b=4)
        self.assert_holds(False, ("same", "a", "b"), a=0, b=None)
        self.assert_holds(False, ("same", "a", "b"), b=0)
        self.assert_holds(True, ("same", "a", "b"), a=None, b=None)
        self.assert_holds(True, ("same", "a", "b"), a=None)
        self.assert_holds(True, ("same", "a", "b"))

    def test_and_or(self):
        for size in (2, 3, 6):
            for mask in range(2 ** size):
                told = {"abcdef"[at]: mask >> at & 1 for at in range(size)}
                parts = tuple(("is", "abcdef"[at], (1,)) for at in range(size))
                self.assert_holds(mask == 2 ** size - 1, ("and",) + parts, **told)
                self.assert_holds(mask > 0, ("or",) + parts, **told)

    def test_deep(self):
        self.assertIs(holds(nots(119), {}), False)
        self.assertIs(holds(nots(118), {}), True)

    def test_told_is_not_changed(self):
        told = {"a": 1}
        holds(("and", ("asked", "a"), ("sum", ("a", "b"), 0, 9), ("same", "c", "a")), told)
        self.assertEqual(told, {"a": 1})


class Renamed(LeafCase):
    def test_each_word(self):
        names = {"a": "x", "b": "y1", "always": "no", "asked": "no", "from": "no"}
        for condition, wanted in (
            (ALWAYS, ALWAYS), (("asked", "a"), ("asked", "x")), (("asked", "c"), ("asked", "c")),
            (("is", "a", (0, 3)), ("is", "x", (0, 3))), (("has", "b", 3), ("has", "y1", 3)),
            (("from", "a", 1, 9), ("from", "x", 1, 9)),
            (("sum", ("b", "c", "a"), 1, 9), ("sum", ("y1", "c", "x"), 1, 9)),
            (("same", "a", "b"), ("same", "x", "y1")), (("same", "c", "b"), ("same", "c", "y1")),
            (("not", ("asked", "a")), ("not", ("asked", "x"))),
            (
                ("and", ("asked", "a"), ("or", ALWAYS, ("has", "a1", 0), ("asked", "b"))),
                ("and", ("asked", "x"), ("or", ALWAYS, ("has", "a1", 0), ("asked", "y1"))),
            ),
        ):
            with self.subTest(condition):
                self.assertEqual(renamed(condition, names), wanted)
                self.assertEqual(renamed(condition, {}), condition)

    def test_all_at_once(self):
        names = {"a": "b", "b": "a"}
        self.assertEqual(renamed(("same", "a", "b"), names), ("same", "b", "a"))
        self.assertEqual(renamed(("sum", ("a", "b"), 0, 1), names), ("sum", ("b", "a"), 0, 1))

    def test_what_comes_out_is_not_looked_at(self):
        self.assertEqual(renamed(("same", "a", "b"), {"a": "b"}), ("same", "b", "b"))
        self.assertEqual(renamed(("asked", "a"), {"a": "NO NAME"}), ("asked", "NO NAME"))
        self.assertEqual(renamed(("sum", ("a", "b"), 0, 1), {"b": "a"}), ("sum", ("a", "a"), 0, 1))

    def test_names_and_condition_are_not_changed(self):
        names = {"a": "b"}
        condition = ("and", ("asked", "a"), ("sum", ("a",), 0, 1))
        before = copy.deepcopy(condition)
        renamed(condition, names)
        self.assertEqual((names, condition), ({"a": "b"}, before))

    def test_deep(self):
        self.assertEqual(renamed(nots(118, ("asked", "a")), {"a": "b"}), nots(118, ("asked", "b")))


if __name__ == "__main__":
    unittest.main()
