"""Promises k18 and k23, points [5], [16] to [18]: groups that are joined, taken off, and turned."""

import unittest

from slipleaf.errors import TooMany, Unlike
from slipleaf.forms import Form
from slipleaf.groups import Group
from slipleaf.reading import read_form
from tests.helper import ALWAYS, LeafCase, ask
from tests.oracle import all_records, holding, kinds_in, random_condition, random_form, seeded, table_by_words
from tests.test_groups import EMPTY, HIGH, NEVER, RENT, WIDE, groups_of, wide_records


class Joined(LeafCase):
    def test_as_sets(self):
        for rng in seeded(25):
            form = random_form(rng)
            made = groups_of(rng, form)
            every = all_records(form)
            for one, ones in made:
                self.assertEqual(list((~one).records()), [record for record in every if record not in ones])
                self.assertEqual(~~one, one)
                for other, others in made:
                    both = [record for record in every if record in ones and record in others]
                    some = [record for record in every if record in ones or record in others]
                    left = [record for record in every if record in ones and record not in others]
                    for group, records in ((one & other, both), (one | other, some), (one - other, left)):
                        self.assertEqual(list(group.records()), records)
                        self.assertEqual(group.table, table_by_words(form, records))
                        self.assertEqual(group.form, form)
                    self.assertIs(one.within(other), both == ones)
                    self.assertIs(one == other, ones == others)

    def test_against_conditions_that_say_the_same(self):
        for rng in seeded(60):
            form = random_form(rng, 5)
            kinds = kinds_in(form)
            first, second = random_condition(rng, kinds), random_condition(rng, kinds)
            one, other = Group.of(form, first), Group.of(form, second)
            self.assertEqual(one & other, Group.of(form, ("and", first, second)))
            self.assertEqual(one | other, Group.of(form, ("or", first, second)))
            self.assertEqual(one - other, Group.of(form, ("and", first, ("not", second))))
            self.assertEqual(~one, Group.of(form, ("not", first)))
            unless = Group.of(form, ("or", ("not", first), second))
            self.assertIs(one.within(other), unless == Group.every(form))
            self.assertIs(one.within(other), not one - other)
            lawful = [Group.of(form, condition) for _, _, condition in form.checks]
            joined = Group.every(form)
            for group in lawful:
                joined = joined & group
            self.assertEqual(joined, Group.lawful(form))

    def test_laws(self):
        for rng in seeded(25):
            form = random_form(rng)
            one, other, third = [group for group, _ in groups_of(rng, form)][1:]
            every, none = Group.every(form), Group.listed(form, ())
            self.assertEqual((one & other, one | other), (other & one, other | one))
            self.assertEqual(~(one | other), ~one & ~other)
            self.assertEqual(one & (other | third), (one & other) | (one & third))
            self.assertEqual(one - (other | third), one - other - third)
            self.assertEqual((one & every, one | none, one - none, one - every), (one, one, one, none))
            self.assertEqual((one & none, one | every, one & ~one, one | ~one), (none, every, none, every))
            self.assertEqual(~none, every)
            self.assertTrue(none.within(one) and one.within(every) and (one & other).within(one))
            self.assertEqual(one.many() + other.many(), (one & other).many() + (one | other).many())

    def test_empty_form(self):
        one, none = Group.every(EMPTY), Group.listed(EMPTY, ())
        self.assertEqual((~one, ~none, one & none, one | none), (none, one, none, one))
        self.assertEqual((one - none, none - one), (one, none))
        self.assertEqual((one.within(none), none.within(one)), (False, True))
        self.assertEqual((one.within(one), none.within(none)), (True, True))
        self.assertEqual(~Group.lawful(NEVER), Group.every(NEVER))

    def test_operands_stay_as_they_are(self):
        one, other = Group.of(RENT, ("is", "own", (1,))), Group.of(RENT, ("from", "rent", 0, 1))
        tables = one.table, other.table
        self.assertEqual([group.many() for group in (one & other, one | other, one - other, ~one)], [2, 3, 1, 1])
        kept = one
        one &= other
        self.assertEqual(((kept.table, other.table), one.many()), (tables, 2))

    def test_equal_forms(self):
        one, other = Group.every(RENT), Group.listed(Form(RENT.flat), [(1, 0)])
        self.assertEqual((one & other, list((one - other).records())), (other, [(0, None), (1, 1), (1, 2)]))
        self.assertIs(other.within(one), True)

    def test_unlike(self):
        one = Group.every(RENT)
        for form in (
            EMPTY, Form(RENT.flat + (("check", "x", ALWAYS),)),
            read_form("ask own pick 2\nask rent count 0 2 when is own 0"),
        ):
            for other in (Group.every(form), Group.listed(form, ())):
                self.assert_error(Unlike(), lambda: one & other)
                self.assert_error(Unlike(), lambda: one | other)
                self.assert_error(Unlike(), lambda: one - other)
                self.assert_error(Unlike(), one.within, other)
                self.assert_error(Unlike(), other.within, one)
                self.assertIs(one == other, False)


class Bounds(LeafCase):
    def test_or_at_the_bound(self):
        fits, more = wide_records(3000), wide_records(3001)
        group = Group.listed(WIDE, fits[:40]) | Group.listed(WIDE, fits[40:])
        self.assertEqual((group.size, group), (3000, Group.listed(WIDE, fits)))
        one, other = Group.listed(WIDE, more[:40]), Group.listed(WIDE, more[40:])
        self.assert_error(TooMany("rest"), lambda: one | other)
        self.assert_error(Unlike(), lambda: one | Group.listed(RENT, ()))

    def test_not_at_the_bound(self):
        group = Group.listed(WIDE, wide_records(2961))
        self.assertEqual((group.size, (~group).size), (2961, 3000))
        self.assertEqual((~group).many(), 63 ** 40 - 79)
        self.assertEqual(~~group, group)
        more = Group.listed(WIDE, wide_records(2962))
        self.assert_error(TooMany("rest"), lambda: ~more)

    def test_but_at_the_bound(self):
        every = Group.every(WIDE)
        for size in (2961, 2962):
            group = Group.listed(WIDE, wide_records(size))
            if size == 2961:
                self.assertEqual((every - group, group - every), (~group, Group.listed(WIDE, ())))
            else:
                self.assert_error(TooMany("rest"), lambda: every - group)

    def test_and_at_the_bound(self):
        for size in (2961, 2962):
            records = wide_records(size)
            one, other = ~Group.listed(WIDE, records[:40]), ~Group.listed(WIDE, records[40:])
            if size == 2961:
                self.assertEqual((one & other).size, 3000)
                self.assertEqual(one & other, ~Group.listed(WIDE, records))
            else:
                self.assert_error(TooMany("rest"), lambda: one & other)

    def test_not_where_the_group_of_all_is_too_large(self):
        form = Form(HIGH.flat[:6] + (ask("h"),) + HIGH.flat[6:])
        self.assert_error(TooMany("rest"), Group.every, form)
        none = Group.listed(form, ())
        self.assert_error(TooMany("rest"), lambda: ~none)
        part = Group.of(form, ("and", *[("is", name, (1, 2)) for name in "abcdef"]))
        self.assertEqual((part & part, part | part, part - part), (part, part, none))
        self.assert_error(TooMany("rest"), lambda: ~part)
        one, other = Group.of(form, ("is", "a", (0,))), Group.of(form, ("is", "a", (1, 2)))
        self.assertLess(max(one.size, other.size), 3000)
        self.assertEqual((~one, ~other), (other, one))
        self.assert_error(TooMany("rest"), lambda: one | other)

    def test_within_never_says_too_many(self):
        form = read_form("\n".join(f"ask {first}{second} count 0 62" for first in "abcde" for second in "abcd"))
        one, other = Group.of(form, ("sum", ("aa", "ea"), 30, 80)), Group.of(form, ("sum", ("ab", "eb"), 30, 80))
        self.assert_error(TooMany("rest"), lambda: one & other)
        self.assertIs(one.within(other), False)
        wider = Group.of(form, ("sum", ("aa", "ea"), 29, 80))
        self.assertEqual((one.within(wider), wider.within(one)), (True, False))


if __name__ == "__main__":
    unittest.main()
