"""Promises k62 and k63, points [48], [49]: trees of questions."""

import random
import time
import unittest

from slipleaf.errors import BadRecord, NoRecord, Stray, TooMany
from slipleaf.forms import Form
from slipleaf.reading import read_form
from slipleaf.trees import Tree
from tests.case_oracle import depth_by_words, tree_by_words
from tests.helper import ODD_THINGS, LeafCase
from tests.oracle import all_records, random_form, seeded
from tests.test_lots import FORTY, NAMES, WIDE, records_of, weak_columns

RENT = read_form("ask own pick 2\nask rent count 0 2 when is own 1")


def way_by_words(form, told, record):
    """Return the names that a told tree asks for a record, and where it strays, or None."""
    names = ()
    while told[0] == "ask":
        branches = dict(told[2])
        value = record[form.names.index(told[1])]
        if value not in branches:
            return names, told[1]
        names += (told[1],)
        told = branches[value]
    return names, None


class Trees(LeafCase):
    def test_example(self):
        tree = Tree(RENT, [(0, None), (1, 0), (1, 2)])
        self.assertEqual(
            tree.told(), ("ask", "rent", ((None, ("is", (0, None))), (0, ("is", (1, 0))), (2, ("is", (1, 2)))))
        )
        self.assertEqual((tree.form, tree.depth, len(tree), tree((1, 2))), (RENT, 1, 3, ("rent",)))
        self.assert_error(Stray("rent"), tree, (1, 1))

    def test_a_leaf(self):
        tree = Tree(RENT, ((1, 2),))
        self.assertEqual((tree.told(), tree.depth, len(tree), tree((1, 2)), tree((0, None))), (("is", (1, 2)), 0, 1, (), ()))
        self.assertEqual(Tree(Form([]), [()]).told(), ("is", ()))

    def test_the_first_of_the_shallowest(self):
        form = read_form("ask a pick 2\nask b pick 3\nask c pick 2\nask d pick 2")
        # With a first there would be three questions; b and c do with two, so does d.
        records = [(0, 0, 0, 0), (1, 0, 0, 1), (0, 1, 1, 0), (0, 1, 1, 1)]
        tree = Tree(form, records)
        self.assertEqual((tree.depth, tree.told()[1]), (2, "b"))
        self.assertEqual(tree.told()[2][0][1][1], "a")
        self.assertEqual(tree((0, 1, 1, 1)), ("b", "d"))

    def test_by_the_words(self):
        depths, strays = {}, 0
        for rng in seeded(250):
            form = random_form(rng, rng.randint(1, 5))
            records = all_records(form)
            told = rng.sample(records, rng.randint(1, min(12, len(records))))
            tree, known = Tree(form, rng.choice((told, tuple(told)))), {}
            self.assertEqual(tree.told(), tree_by_words(form, told, known))
            self.assertEqual((tree.depth, len(tree)), (depth_by_words(form, told, known), len(told)))
            self.assertEqual(max(len(tree(record)) for record in told), tree.depth)
            for record in rng.sample(records, min(8, len(records))):
                names, stray = way_by_words(form, tree.told(), record)
                if stray is None:
                    self.assertEqual(tree(record), names)
                else:
                    self.assert_error(Stray(stray), tree, record)
                    strays += 1
            depths[tree.depth] = True
        self.assertEqual(sorted(depths)[:4], [0, 1, 2, 3])
        self.assertGreater(strays, 50)

    def test_lists_are_copied(self):
        records = [(0, None), (1, 0)]
        tree = Tree(RENT, records)
        records.clear()
        self.assertEqual((len(tree), tree.told()), (2, ("ask", "own", ((0, ("is", (0, None))), (1, ("is", (1, 0)))))))

    def test_twelve_records_of_forty_questions(self):
        rng = random.Random(5)
        told = [(FORTY, weak_columns(rng, sizes)) for sizes in ((1,), (2,), (3,), (4,), (1, 2), (1, 2, 3))]
        for form, many in ((FORTY, 2), (WIDE, 3), (WIDE, 6)):
            told.append((form, [[rng.randrange(many) for _ in range(12)] for _ in NAMES]))
        for form, columns in told:
            records = records_of(columns)
            if len(set(records)) == 12:
                begun = time.perf_counter()
                tree = Tree(form, records)
                self.assertLess(time.perf_counter() - begun, 10)
                self.assertEqual(max(len(tree(record)) for record in records), tree.depth)
        ones = [tuple(int(at == number) for at in range(40)) for number in range(12)]
        self.assertEqual((Tree(FORTY, ones).depth, Tree(FORTY, ones)(ones[-1])), (11, tuple(NAMES[:11])))


class Errors(LeafCase):
    def test_records(self):
        form = read_form("ask a count 0 99")
        self.assertEqual(len(Tree(form, [(answer,) for answer in range(12)])), 12)
        self.assert_error(TooMany("record"), Tree, form, [(answer,) for answer in range(13)])
        self.assert_error(TooMany("record"), Tree, RENT, [None] * 13)
        for thing in ODD_THINGS + ([1, 0], (1,), (0, 0), (1, None), (1, 3), (True, 0)):
            self.assert_error(BadRecord(0), Tree, RENT, [thing])
            self.assert_error(BadRecord(1), Tree, RENT, [(0, None), thing])
            self.assert_error(BadRecord(0), Tree(RENT, [(0, None), (1, 0)]), thing)
            self.assert_error(BadRecord(0), Tree(RENT, [(0, None)]), thing)
        self.assert_error(BadRecord(1), Tree, RENT, [(0, None), (0, None)])
        self.assert_error(NoRecord(), Tree, RENT, [])
        self.assert_error(NoRecord(), Tree, RENT, ())

    def test_strays(self):
        form = read_form("ask a pick 3\nask b pick 3 when not is a 0")
        tree = Tree(form, [(1, 0), (1, 1), (2, 2)])
        self.assertEqual(tree.told()[1], "b")
        self.assert_error(Stray("b"), tree, (0, None))
        # Only what is asked matters.
        self.assertEqual(tree((2, 1)), ("b",))
        self.assertEqual(Tree(form, [(1, 0), (1, 1)])((2, 0)), ("b",))


if __name__ == "__main__":
    unittest.main()
