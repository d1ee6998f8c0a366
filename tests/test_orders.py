"""Promises k27 and k32, points [9], [23] to [25]: orders of forms, and the best one."""

import inspect
import itertools
import time
import unittest

from slipleaf.arrows import row_count
from slipleaf.conditions import names_in
from slipleaf.errors import BadOrder, TooMany, Unknown
from slipleaf.forms import Form
from slipleaf.groups import Group
from slipleaf.kinds import size_of
from slipleaf.orders import best_order, needed_ahead, ordered, orders
from slipleaf.reading import read_form
from tests.helper import ALWAYS, LeafCase, ask
from tests.oracle import all_records, failing, random_form, seeded

EMPTY = Form(())
FORM = read_form(
    "check first always\nask a pick 2\nask b count 0 2\nask c pick 2 when ( from b 1 2 and is a 1 )\n"
    "check late asked a\nask d pick 2 when not asked c\ncheck both ( asked b or asked a )\ncheck last is a 0"
)


def all_orders(form):
    """Return all orders, as the words of [24] tell them."""
    found = []
    for names in itertools.permutations(form.names):
        if all(
            set(names_in(form.need_of(name))) <= set(names[:at]) for at, name in enumerate(names)
        ):
            found.append(names)
    return found


def ordered_by_words(form, names):
    """Return the questions and checks of the form in an order, as the words of [24] tell them."""
    questions = tuple(form.questions[form.names.index(name)] for name in names)
    checks = []
    for name, _, condition in form.checks:
        place = min(at for at in range(len(names) + 1) if set(names_in(condition)) <= set(names[:at]))
        checks.append((name, place, condition))
    return questions, tuple(sorted(checks, key=lambda check: check[1]))


class Ahead(LeafCase):
    def test_needed_ahead(self):
        self.assertEqual([needed_ahead(FORM, name) for name in FORM], [(), (), ("a", "b"), ("c",)])
        twice = read_form("ask a pick 2\nask b pick 2\nask c pick 2 when ( asked b or asked b or same b a )")
        self.assertEqual(needed_ahead(twice, "c"), ("a", "b"))
        for name in ("e", "", "first"):
            self.assert_error(Unknown(name), needed_ahead, FORM, name)


class Ordered(LeafCase):
    def test_example(self):
        form = ordered(FORM, ("b", "a", "c", "d"))
        self.assertEqual(form.names, ("b", "a", "c", "d"))
        self.assertEqual([check[:2] for check in form.checks], [("first", 0), ("late", 2), ("both", 2), ("last", 2)])
        self.assertEqual(form.source, form.flat)
        self.assertEqual(ordered(FORM, ["b", "a", "c", "d"]), form)

    def test_checks_move_in_the_forms_own_order_too(self):
        form = ordered(FORM, FORM.names)
        self.assertEqual([check[:2] for check in form.checks], [("first", 0), ("late", 1), ("last", 1), ("both", 2)])
        self.assertNotEqual(form, FORM)
        self.assertEqual(ordered(form, FORM.names), form)

    def test_as_the_words_tell(self):
        for rng in seeded(60):
            form = random_form(rng, rng.randint(0, 4))
            for names in all_orders(form):
                made = ordered(form, names)
                self.assertEqual((made.questions, made.checks), ordered_by_words(form, names))
                # The same answers make the same records, but for their order.
                told = {frozenset(zip(form.names, record)) for record in all_records(form)}
                self.assertEqual({frozenset(zip(names, record)) for record in all_records(made)}, told)
                lawful = [record for record in all_records(form) if not failing(form, record)]
                self.assertEqual(Group.lawful(made).many(), len(lawful))

    def test_bad_orders(self):
        for names, bad in (
            (("a", "x", "b", "c", "d"), "x"), (("a", "a", "b"), "a"), (("a", "c", "b", "d"), "c"), (("d",), "d"),
            (("a", "b", "d", "c"), "d"), (("a", "c", "x"), "c"), (("b",), "a"), (("a", "b"), "c"), ((), "a"),
            (("a", "b", "c", "d", "a"), "a"), (("a", "b", "c", "d", "first"), "first"), (["b", "a", "c"], "d"),
            (("b", "b", "c"), "b"),
        ):
            self.assert_error(BadOrder(bad), ordered, FORM, names)
        self.assert_error(BadOrder("a"), ordered, EMPTY, ("a",))
        self.assertEqual(ordered(EMPTY, ()), EMPTY)

    def test_too_much_standing(self):
        names = ["a", "b", "c"]
        items = []
        for name in names:
            items += [ask(name, ("count", 0, 62)), ask(name + "z", ("pick", 2), ("from", name, 0, 9))]
        form = Form(items)
        self.assertEqual(ordered(form, form.names), form)
        far = ("a", "b", "c", "az", "bz", "cz")
        self.assert_error(TooMany("standing"), ordered, form, far)
        self.assert_error(BadOrder("cz"), ordered, form, far[:5])
        near = ("b", "a", "bz", "az", "c", "cz")
        self.assertEqual(ordered(form, near).weight_at(2), 64 * 64)

    def test_arguments_are_not_changed(self):
        names = ["b", "a", "c", "d"]
        ordered(FORM, names)
        self.assertEqual(names, ["b", "a", "c", "d"])


class AllOrders(LeafCase):
    def test_examples(self):
        self.assertEqual(list(orders(FORM)), [("a", "b", "c", "d"), ("b", "a", "c", "d")])
        self.assertEqual(list(orders(EMPTY)), [()])
        self.assertTrue(inspect.isgenerator(orders(FORM)))

    def test_as_the_words_tell(self):
        for rng in seeded(80):
            form = random_form(rng, rng.randint(0, 5))
            self.assertEqual(list(orders(form)), all_orders(form))

    def test_one_by_one(self):
        form = Form([ask(first + second) for first in "abcde" for second in "abcdefgh"])
        told = orders(form)
        self.assertEqual(next(told), form.names)
        self.assertEqual(next(told), form.names[:38] + (form.names[39], form.names[38]))


class Best(LeafCase):
    def test_as_the_words_tell(self):
        moved = 0
        for rng in seeded(200):
            many = rng.randint(0, 5)
            form = random_form(rng, many, [rng.choice((("pick", 2), ("pick", 3), ("tick", 2))) for _ in range(many)])
            wanted = min(all_orders(form), key=lambda names: row_count(ordered(form, names)))
            self.assertEqual(best_order(form), wanted)
            moved += wanted != form.names
        self.assertGreater(moved, 3)

    def test_example(self):
        form = read_form("ask a pick 2\nask b pick 2\nask c pick 2 when is a 1")
        # With b ahead or behind, no row is needed twice.
        self.assertEqual(best_order(form), ("a", "c", "b"))
        self.assertEqual(row_count(ordered(form, ("a", "c", "b"))), 3)
        self.assertEqual(row_count(form), 4)
        self.assertEqual(best_order(EMPTY), ())

    def test_bounds(self):
        at = [("pick", 3)] * 6
        above = [("count", 0, 14), ("count", 0, 14), ("count", 0, 15)]
        for kinds, many in ((at, 4096), ([("count", 0, 62)] * 2, 4096), (above, 16 * 16 * 17), ([("pick", 2)] * 8, 6561)):
            form = Form([ask("abcdefgh"[at], kind) for at, kind in enumerate(kinds)])
            product = 1
            for kind in kinds:
                product *= size_of(kind) + 1
            self.assertEqual(product, many)
            if many > 4096:
                self.assert_error(TooMany("person"), best_order, form)
            else:
                self.assertEqual(best_order(form), form.names)

    def test_the_most_orders_take_no_long_time(self):
        begun = time.perf_counter()
        form = Form([ask(name) for name in "abcdefg"])
        self.assertEqual(best_order(form), tuple("abcdefg"))
        needs = [ALWAYS, ALWAYS, ALWAYS, ("same", "a", "b"), ("same", "b", "c"), ("is", "a", (1,)), ("same", "a", "c")]
        tied = Form([ask(name, ("pick", 2), need) for name, need in zip("abcdefg", needs)])
        found = best_order(tied)
        self.assertEqual(found, min(orders(tied), key=lambda names: row_count(ordered(tied, names))))
        self.assertLess(time.perf_counter() - begun, 20)


if __name__ == "__main__":
    unittest.main()
