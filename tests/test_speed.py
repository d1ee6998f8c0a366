"""Large forms and groups: nothing here lists all records, and each call ends soon."""

import random
import time
import unittest

from slipleaf.compare import parting
from slipleaf.errors import TooMany
from slipleaf.forms import Form
from slipleaf.groups import Group
from slipleaf.reading import read_form
from slipleaf.reports import always_asked, first_asked, needless_checks, never_asked, shown_by
from slipleaf.writing import write_form
from tests.helper import LeafCase, ask

# Each call takes about a tenth of this, so that a busy machine is no reason to fail.
SECONDS = 10


def long_condition(rng, words):
    """Return a condition over the questions a to f of about so many words."""
    if words < 8:
        return ("is", rng.choice("abcdef"), tuple(sorted(rng.sample(range(3), rng.randint(1, 2)))))
    parts = rng.choice((2, 3))
    return (rng.choice(("and", "or")),) + tuple(long_condition(rng, (words - parts - 1) // parts) for _ in range(parts))


def heavy(seed, kind, checks=0):
    """Return a form of 40 questions, with a weight of 4,096 at most of its places, and long needs."""
    rng = random.Random(seed)
    items = []
    for name in "abcdef":
        items += [ask("x" + name), ask(name, ("pick", 3), ("is", "x" + name, (1,)))]
    for name in [first + second for first in "abcd" for second in "ghijklm"]:
        items.append(ask(name, kind, long_condition(rng, 80)))
    items += [("check", "c" + name, long_condition(rng, 80)) for name in "abcdefghijklmnopqrst"[:checks]]
    return Form(items)


class Speed(LeafCase):
    def timed(self, call, *args):
        """Return what a call gives, and fail if it takes too long."""
        begun = time.perf_counter()
        try:
            return call(*args)
        except TooMany as error:
            return error.kind
        finally:
            self.assertLess(time.perf_counter() - begun, SECONDS)

    def test_heavy_forms(self):
        for kind in (("pick", 2), ("count", 0, 99)):
            form = heavy(1, kind, 20)
            self.assertEqual((len(form), form.weight_at(12), form.weight_at(40)), (40, 4096, 4096))
            self.assertEqual(self.timed(Group.every, form), "rest")
            none = Group.listed(form, ())
            self.assertEqual(self.timed(lambda: ~none), "rest")
            self.assertIs(type(self.timed(Group.lawful, form)), Group)
            for call in (never_asked, always_asked, needless_checks):
                self.assertIs(type(self.timed(call, form)), tuple)
            self.assertEqual(self.timed(first_asked, form, "dm")[form.place_of("dm")], 0)
            self.timed(shown_by, form, "ct")
            self.assertIsNone(self.timed(parting, form, form))
            self.assertEqual(self.timed(parting, form, heavy(2, kind))[0], "asks")
            self.assertEqual(self.timed(read_form, write_form(form)), form)

    def test_groups_with_very_many_records(self):
        form = Form([ask(first + second, ("count", 0, 62)) for first in "abcde" for second in "abcdefgh"])
        one = self.timed(Group.of, form, ("sum", ("aa", "ed"), 30, 80))
        other = self.timed(Group.of, form, ("sum", ("ab", "ec"), 30, 80))
        far = self.timed(Group.of, form, ("sum", ("aa", "ed"), 31, 31))
        self.assertGreater(min(one.size, other.size), 2000)
        self.assertGreater(min(one.many(), other.many()), 10 ** 68)
        for call in (lambda: one & other, lambda: one | other, lambda: one - other):
            self.assertEqual(self.timed(call), "rest")
        for call, group in ((lambda: ~~one, one), (lambda: one & far, far), (lambda: one | far, one)):
            self.assertEqual(self.timed(call), group)
        self.assertIs(self.timed(one.within, other), False)
        self.assertIs(self.timed(far.within, one), True)
        self.assertEqual(self.timed(one.rank, self.timed(one.nth, 12345 ** 8)), 12345 ** 8)
        self.assertEqual((len(self.timed(one.told, "ed")), self.timed(one.settled)), (63, ()))
        self.assertEqual(self.timed(one.having, "aa", 3).many() % 63 ** 38, 0)

    def test_many_records_listed(self):
        form = Form([ask(first + second, ("count", 0, 62)) for first in "abcde" for second in "abcdefgh"])
        rng = random.Random(1)
        records = [tuple(rng.randint(0, 1) if place > 29 else 5 for place in range(40)) for _ in range(5000)]
        group = self.timed(Group.listed, form, records)
        self.assertEqual(group.many(), len(set(records)))
        apart = [tuple(rng.randint(0, 62) for _ in range(40)) for _ in range(3000)]
        self.assertEqual(self.timed(Group.listed, form, apart), "rest")


if __name__ == "__main__":
    unittest.main()
