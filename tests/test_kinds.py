"""Promises [1], [2], [3] and the interface of slipleaf/kinds.py."""

import unittest

from slipleaf.errors import BadAnswer, BadContent, BadKind
from slipleaf.kinds import all_slips, answers_of, is_answer, is_content, is_kind, size_of, slips_between, ticked
from tests.helper import ODD_THINGS, LeafCase, deep

KINDS = (
    [("pick", n) for n in range(2, 7)]
    + [("tick", n) for n in range(2, 5)]
    + [("count", low, high) for low in (0, 1, 42, 98) for high in (1, 2, 43, 99) if low < high]
)
NO_KINDS = (
    ("pick", 1), ("pick", 7), ("pick", 0), ("pick", -2), ("pick", 10 ** 29), ("tick", 1), ("tick", 5),
    ("count", -1, 5), ("count", 0, 0), ("count", 5, 5), ("count", 6, 5), ("count", 0, 100),
    ("count", 99, 99), ("count", 98, 100), ("count", 99, 100), ("count", -2, -1),
    ("pick",), ("pick", 2, 3), ("tick",), ("tick", 2, 2), ("count",), ("count", 1), ("count", 1, 2, 3),
    ("pick", True), ("tick", True), ("count", False, 5), ("count", 0, True), ("count", False, True),
    ["pick", 2], ["tick", 2], ["count", 0, 9], ("pick", 2.0), ("pick", "2"), ("count", 0, 9.0),
    ("pick", None), ("count", None, 3), ("count", 3, None), ("pick", (2,)), ("Pick", 2), ("pic", 2),
    ("choose", 2), ("choose", 0, 9), (b"pick", 2), ("", 2), (2, "pick"), (("pick",), 2), "pick", "pick 2",
    deep(130), (deep(129), 2), ("pick", deep(129)), ("count", deep(129), 3), ("count", 3, deep(129)),
)


class Kinds(LeafCase):
    def test_is_kind(self):
        for kind in KINDS:
            with self.subTest(kind):
                self.assertIs(is_kind(kind), True)

    def test_is_no_kind(self):
        for thing in (*NO_KINDS, *ODD_THINGS):
            with self.subTest(repr(thing)[:60]):
                self.assertIs(is_kind(thing), False)

    def test_answers(self):
        self.assertEqual(answers_of(("pick", 2)), (0, 1))
        self.assertEqual(answers_of(("pick", 6)), (0, 1, 2, 3, 4, 5))
        self.assertEqual(answers_of(("tick", 2)), (1, 2, 3))
        self.assertEqual(answers_of(("tick", 4)), tuple(range(1, 16)))
        self.assertEqual(answers_of(("count", 0, 1)), (0, 1))
        self.assertEqual(answers_of(("count", 7, 9)), (7, 8, 9))
        self.assertEqual(answers_of(("count", 0, 99)), tuple(range(100)))

    def test_size(self):
        for kind in KINDS:
            with self.subTest(kind):
                self.assertIs(type(answers_of(kind)), tuple)
                self.assertEqual(size_of(kind), len(answers_of(kind)))
        self.assertEqual([size_of(("pick", 5)), size_of(("tick", 3)), size_of(("count", 2, 9))], [5, 7, 8])

    def test_is_answer(self):
        for kind in KINDS:
            for thing in range(-3, 105):
                with self.subTest((kind, thing)):
                    self.assertIs(is_answer(kind, thing), thing in answers_of(kind))

    def test_is_content(self):
        for n in range(2, 7):
            found = [thing for thing in range(-5, 105) if is_content(("pick", n), thing)]
            self.assertEqual(found, [-2, -1, *range(n)])
        for n in range(2, 5):
            found = [thing for thing in range(-5, 105) if is_content(("tick", n), thing)]
            self.assertEqual(found, [-1, *range(1, 2 ** n)])
        for low, high in ((0, 1), (3, 9), (98, 99), (0, 99)):
            found = [thing for thing in range(-5, 105) if is_content(("count", low, high), thing)]
            self.assertEqual(found, [-2, -1, *range(100)])

    def test_no_answer_and_no_content(self):
        for kind in (("pick", 2), ("tick", 2), ("count", 0, 5)):
            for thing in (*ODD_THINGS, deep(130), [1], "0", -3, 100):
                with self.subTest((kind, repr(thing)[:60])):
                    self.assertIs(is_answer(kind, thing), False)
                    self.assertIs(is_content(kind, thing), False)

    def test_true_and_false_are_no_answers(self):
        for kind in (("pick", 2), ("tick", 2), ("count", 0, 5)):
            self.assertIs(is_answer(kind, True), False)
            self.assertIs(is_content(kind, True), False)
            self.assertIs(is_content(kind, False), False)

    def test_bad_kind(self):
        for thing in (*NO_KINDS, *ODD_THINGS):
            with self.subTest(repr(thing)[:60]):
                self.assert_error(BadKind(), answers_of, thing)
                self.assert_error(BadKind(), size_of, thing)
                self.assert_error(BadKind(), is_answer, thing, 1)
                self.assert_error(BadKind(), is_content, thing, 1)
                self.assert_error(BadKind(), slips_between, thing, 1, 1)
                self.assert_error(BadKind(), ticked, thing, 1)


class Slips(LeafCase):
    def test_examples(self):
        self.assertEqual(slips_between(("count", 0, 20), 7, 17), 1)
        self.assertEqual(slips_between(("tick", 3), 5, -1), 2)

    def test_pick(self):
        for answer in range(4):
            for content in range(-2, 4):
                wanted = 0 if answer == content else 1
                self.assertEqual(slips_between(("pick", 4), answer, content), wanted)

    def test_tick(self):
        for n in (2, 3, 4):
            for answer in range(1, 2 ** n):
                self.assertEqual(slips_between(("tick", n), answer, -1), bin(answer).count("1"))
                for content in range(1, 2 ** n):
                    wanted = bin(answer ^ content).count("1")
                    self.assertEqual(slips_between(("tick", n), answer, content), wanted)

    def test_count(self):
        for answer in range(5, 31):
            for content in (-1, -2):
                self.assertEqual(slips_between(("count", 5, 30), answer, content), 1)
            for content in range(100):
                first, second = str(answer).zfill(2), str(content).zfill(2)
                wanted = (first[0] != second[0]) + (first[1] != second[1])
                self.assertEqual(slips_between(("count", 5, 30), answer, content), wanted)

    def test_values_are_integers(self):
        for kind, answer, content in ((("pick", 2), 0, 1), (("tick", 2), 1, 3), (("count", 0, 9), 1, 22)):
            self.assertIs(type(slips_between(kind, answer, content)), int)

    def test_bad_answer(self):
        for kind, answer in (
            (("pick", 3), 3), (("pick", 3), -1), (("pick", 3), -2), (("tick", 3), 0), (("tick", 3), 8),
            (("tick", 3), -1), (("count", 3, 7), 2), (("count", 3, 7), 8), (("count", 3, 7), -1),
            (("pick", 3), True), (("tick", 3), True), (("count", 0, 7), False), (("pick", 3), None),
            (("pick", 3), (1,)), (("pick", 3), [1]), (("pick", 3), "1"),
        ):
            with self.subTest((kind, answer)):
                self.assert_error(BadAnswer(""), slips_between, kind, answer, 1)

    def test_bad_content(self):
        for kind, content in (
            (("pick", 3), 3), (("pick", 3), -3), (("tick", 3), 0), (("tick", 3), 8), (("tick", 3), -2),
            (("count", 0, 7), 100), (("count", 0, 7), -3), (("pick", 3), True), (("tick", 3), True),
            (("count", 0, 7), False), (("pick", 3), None), (("pick", 3), [1]),
        ):
            with self.subTest((kind, content)):
                self.assert_error(BadContent(), slips_between, kind, 1, content)

    def test_first_error_first(self):
        self.assert_error(BadKind(), slips_between, ("pick", 7), 9, 9)
        self.assert_error(BadAnswer(""), slips_between, ("pick", 3), 9, 9)


class Ticked(LeafCase):
    def test_pick(self):
        found = [ticked(("pick", 4), content) for content in range(-2, 4)]
        self.assertEqual(found, [(), (), (0,), (1,), (2,), (3,)])
        self.assertEqual(ticked(("pick", 6), 5), (5,))

    def test_tick(self):
        self.assertEqual(ticked(("tick", 3), -1), ())
        found = [ticked(("tick", 3), content) for content in range(1, 8)]
        self.assertEqual(found, [(0,), (1,), (0, 1), (2,), (0, 2), (1, 2), (0, 1, 2)])
        self.assertEqual(ticked(("tick", 4), 15), (0, 1, 2, 3))
        self.assertEqual(ticked(("tick", 4), 8), (3,))

    def test_errors(self):
        self.assert_error(BadKind(), ticked, ("count", 0, 9), 3)
        self.assert_error(BadKind(), ticked, ("count", 0, 9), 100)
        for content in (-2, 0, 8, -3, True, None, [1], "a"):
            self.assert_error(BadContent(), ticked, ("tick", 3), content)
        for content in (-3, 3, True, False, None, [1], "a"):
            self.assert_error(BadContent(), ticked, ("pick", 3), content)



class AllSlips(LeafCase):
    def test_they_are_those_of_each_answer(self):
        for kind in KINDS:
            for content in range(-2, 100):
                if is_content(kind, content):
                    wanted = tuple(slips_between(kind, answer, content) for answer in answers_of(kind))
                    self.assertEqual(all_slips(kind, content), wanted)


if __name__ == "__main__":
    unittest.main()
