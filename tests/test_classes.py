"""Promises k35 and k36, points [1] and [27]: classes of numbers."""

import random
import unittest

from slipleaf.classes import Classes
from slipleaf.errors import BadNumber, BadRule
from tests.helper import ODD_THINGS, Agreeing, LeafCase

ALL = (1, (0,), 0, 99)
TEENS = (100, (11, 12, 13), 0, 99)
ONES = (10, (1,), 0, 99)


def class_by_words(rules, number):
    """Return the class of a number, as the words of [27] tell it."""
    for place, (modulus, remainders, low, high) in enumerate(rules):
        if low <= number <= high and number % modulus in remainders:
            return place
    return len(rules)


def random_rules(rng):
    """Return rules."""
    rules = []
    for _ in range(rng.randint(0, 4)):
        modulus, low = rng.choice((1, 2, 3, 10, 99, 100)), rng.choice((0, 0, 5, 99))
        many = rng.randint(1, min(modulus, 4))
        rules.append((modulus, tuple(sorted(rng.sample(range(modulus), many))), low, rng.randint(low, 99)))
    return rules


class Parting(LeafCase):
    def test_examples(self):
        classes = Classes([TEENS, ONES, (10, (2, 3), 20, 99)])
        self.assertEqual(len(classes), 4)
        for number, place in ((0, 3), (1, 1), (2, 3), (11, 0), (13, 0), (21, 1), (22, 2), (99, 3), (91, 1)):
            self.assertEqual(classes.class_of(number), place)
        self.assertEqual(classes.numbers_of(0), (11, 12, 13))
        self.assertEqual(classes.numbers_of(1), (1, 21, 31, 41, 51, 61, 71, 81, 91))

    def test_no_rules(self):
        for classes in (Classes([]), Classes(())):
            self.assertEqual((len(classes), classes.class_of(99), classes.numbers_of(0)), (1, 0, tuple(range(100))))

    def test_as_the_words_tell(self):
        for seed in range(60):
            rng = random.Random(seed)
            rules, others = random_rules(rng), random_rules(rng)
            classes, other = Classes(rules), Classes(tuple(others))
            told = [class_by_words(rules, number) for number in range(100)]
            beside = [class_by_words(others, number) for number in range(100)]
            self.assertEqual(len(classes), len(rules) + 1)
            self.assertEqual([classes.class_of(number) for number in range(100)], told)
            for place in range(len(classes)):
                self.assertEqual(classes.numbers_of(place), tuple(n for n in range(100) if told[n] == place))
            pairs = [(a, b) for a in range(100) for b in range(a + 1, 100)]
            wrong = [(a, b) for a, b in pairs if told[a] == told[b] and beside[a] != beside[b]]
            self.assertEqual(classes.finer(other), wrong[0] if wrong else None)
            alike = all((told[a] == told[b]) == (beside[a] == beside[b]) for a, b in pairs)
            self.assertIs(classes == other, alike)
            self.assertIs(classes == other, classes.finer(other) is None and other.finer(classes) is None)

    def test_finer(self):
        even, fours = Classes([(2, (0,), 0, 99)]), Classes([(4, (0,), 0, 99), (4, (2,), 0, 99), (4, (1,), 0, 99)])
        self.assertIsNone(fours.finer(even))
        self.assertEqual(even.finer(fours), (0, 2))
        self.assertIsNone(even.finer(even))
        self.assertEqual(Classes([]).finer(Classes([(100, (99,), 0, 99)])), (0, 99))

    def test_equality_looks_at_how_numbers_are_parted(self):
        even, odd = Classes([(2, (0,), 0, 99)]), Classes([(2, (1,), 0, 99)])
        self.assertEqual(even, odd)
        self.assertEqual(even, Classes([(4, (0, 2), 0, 99), (2, (1,), 0, 99)]))
        self.assertEqual(Classes([]), Classes([ALL]))
        # Classes without numbers part nothing.
        self.assertEqual(Classes([ALL, ALL, TEENS]), Classes([]))
        for other in (Classes([]), Classes([TEENS]), None, 2, [(2, (0,), 0, 99)]):
            self.assertNotEqual(even, other)
            self.assertFalse(even == other)


class Wrong(LeafCase):
    def test_no_list(self):
        for thing in ODD_THINGS + ({0: ALL}, [ALL] * 5, (ALL,) * 5, [None] * 5, range(0)):
            if isinstance(thing, (list, tuple)) and len(thing) < 5:
                continue
            self.assert_error(BadRule(-1), Classes, thing)

    def test_bad_rules(self):
        for rule in ODD_THINGS + (
            list(ALL), ALL[:3], ALL + (0,), (0, (0,), 0, 99), (101, (0,), 0, 99), (True, (0,), 0, 99), (1.0, (0,), 0, 99),
            (10, (), 0, 99), (10, [0], 0, 99), (10, (10,), 0, 99), (10, (-1,), 0, 99), (10, (1, 1), 0, 99),
            (10, (2, 1), 0, 99), (10, (0, True), 0, 99), (10, 1, 0, 99), (1, (1,), 0, 99), (10, (0,), -1, 99),
            (10, (0,), 0, 100), (10, (0,), 5, 4), (10, (0,), False, 9), (10, (0,), 0, None), (10, ("0",), 0, 9),
            (Agreeing(), (0,), 0, 9), (10, Agreeing(), 0, 9), (10, (0,), 10 ** 29, 10 ** 29),
        ):
            self.assert_error(BadRule(0), Classes, [rule])
            self.assert_error(BadRule(2), Classes, (ALL, TEENS, rule, rule))
        self.assert_error(BadRule(1), Classes, [ALL, (), None])

    def test_bounds_of_rules(self):
        classes = Classes([(100, (99,), 99, 99), (100, tuple(range(99)), 0, 0), (1, (0,), 0, 99), (99, (0, 98), 98, 99)])
        self.assertEqual((len(classes), classes.class_of(99), classes.class_of(0), classes.class_of(98)), (5, 0, 1, 2))

    def test_no_number(self):
        classes = Classes([TEENS])
        for thing in ODD_THINGS + (-1, 100, "5"):
            for call in (classes.class_of, classes.numbers_of):
                with self.assertRaises(BadNumber) as caught:
                    call(thing)
                self.assertIs(caught.exception.number, thing)
        self.assert_error(BadNumber(2), classes.numbers_of, 2)
        self.assertEqual(len(classes.numbers_of(1)), 97)

    def test_lists_that_are_changed_behind_the_call(self):
        rules = [TEENS]
        classes = Classes(rules)
        rules[0] = ALL
        rules.append(ALL)
        self.assertEqual((len(classes), classes.class_of(5)), (2, 1))
        self.assertEqual(classes, Classes([TEENS]))


if __name__ == "__main__":
    unittest.main()
