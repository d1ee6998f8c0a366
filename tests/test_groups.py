"""Promises k17, k19 to k22 and k24, points [16] to [18]: groups, their tables and their records."""

import itertools
import unittest

from slipleaf.errors import BadCondition, BadNumber, BadRecord, BadUse, TooMany, Unknown
from slipleaf.forms import Form
from slipleaf.groups import Group
from slipleaf.kinds import answers_of
from slipleaf.reading import read_form
from slipleaf.walks import Walk
from tests.helper import ALWAYS, ODD_THINGS, Agreeing, LeafCase, ask, deep, nots
from tests.oracle import (
    all_records, holding, kinds_in, lawful_records, random_condition, random_form, rest_of, seeded, sorted_values,
    table_by_words,
)
from tests.test_conditions import NO_CONDITIONS

RENT = read_form("ask own pick 2\nask rent count 0 2 when is own 1")
EMPTY = Form(())
NEVER = read_form("check no not always")
WIDE = Form([ask(first + second, ("count", 0, 62)) for first in "abcde" for second in "abcdefgh"])
# What six questions were answered matters up to the end, in three ways each.
HIGH = Form([ask(name, ("pick", 3)) for name in "abcdefg"] + [
    ask(name + more, ("pick", 2), ("is", name, (answer,))) for name in "abcdef" for more, answer in (("x", 0), ("y", 2))
])


def groups_of(rng, form):
    """Return pairs of a group, made in different ways, and the list of its records, in order."""
    condition = random_condition(rng, kinds_in(form))
    some = rng.sample(all_records(form), rng.randint(0, len(all_records(form))))
    return [
        (Group.every(form), all_records(form)), (Group.lawful(form), lawful_records(form)),
        (Group.of(form, condition), holding(form, condition)), (Group.listed(form, some), sorted(some)),
    ]


def random_groups(count=40):
    """Yield groups of random forms, each with the form and the list of its records, in order."""
    for rng in seeded(count):
        form = random_form(rng)
        for group, records in groups_of(rng, form):
            yield form, group, records


def wide_records(size):
    """Return records of WIDE whose group has so many rests; only some sizes are known here.

    Each record begins and ends with one pair of numbers, no two with the same; between them are 0.
    A group of these has 37 rests for each pair, one for each first and each second number, and two.
    """
    pairs, firsts, seconds = {3000: (80, 19, 19), 3001: (80, 20, 19), 2961: (79, 18, 18), 2962: (79, 19, 18)}[size]
    ends = [(number % firsts, (number + number // firsts) % seconds) for number in range(pairs)]
    return [end + (0,) * 36 + end for end in ends]


class Tables(LeafCase):
    def test_example(self):
        table = ((((0, 0), (1, 1)),), (((None, 0),), ((0, 0), (1, 0), (2, 0))), ((),))
        self.assertEqual(Group.every(RENT).table, table)

    def test_empty_form(self):
        for group in (Group.every(EMPTY), Group.lawful(EMPTY), Group.of(EMPTY, ALWAYS), Group.listed(EMPTY, [()])):
            self.assertEqual((group.table, group.size, group.many()), ((((),),), 1, 1))
            self.assertEqual((group.first(), list(group.records()), bool(group), () in group), ((), [()], True, True))
        for group in (Group.lawful(NEVER), Group.of(EMPTY, ("not", ALWAYS)), Group.listed(EMPTY, ())):
            self.assertEqual((group.table, group.size, group.many()), (((),), 0, 0))
            self.assertEqual((group.first(), list(group.records()), bool(group), () in group), (None, [], False, False))

    def test_empty_group(self):
        for group in (
            Group.of(RENT, ("not", ALWAYS)), Group.listed(RENT, []),
            Group.of(RENT, ("is", "own", (0,))).having("own", 1),
        ):
            self.assertEqual((group.table, group.size, group.many()), (((), (), ()), 0, 0))
            self.assertEqual([group.rests(place) for place in range(3)], [0, 0, 0])
            self.assertEqual((group.first(), list(group.records()), bool(group)), (None, [], False))
            self.assertEqual((group.told("own"), group.told("rent"), group.settled()), ((), (), ("own", "rent")))
            self.assertIs((0, None) in group, False)
            self.assert_error(BadNumber(0), group.nth, 0)
            self.assert_error(BadRecord(0), group.rank, (0, None))

    def test_rests_are_numbered_by_first_records(self):
        form = read_form("ask a pick 4\nask b pick 2\nask c pick 2")
        group = Group.listed(form, [(0, 1, 1), (1, 0, 0), (1, 0, 1), (2, 1, 1), (3, 0, 0), (3, 1, 1)])
        self.assertEqual(group.table, (
            (((0, 0), (1, 1), (2, 0), (3, 2)),), (((1, 0),), ((0, 1),), ((0, 2), (1, 0))),
            (((1, 0),), ((0, 0), (1, 0)), ((0, 0),)), ((),),
        ))
        self.assertEqual((group.size, [group.rests(place) for place in range(4)]), (8, [1, 3, 3, 1]))

    def test_as_the_words_tell(self):
        for form, group, records in random_groups():
            self.assertEqual(group.form, form)
            self.assertEqual(group.table, table_by_words(form, records))
            self.assertEqual(group.size, sum(len(row) for row in group.table))
            self.assertEqual([group.rests(place) for place in range(len(form) + 1)], [len(row) for row in group.table])

    def test_only_tuples(self):
        for _, group, _ in random_groups(10):
            self.assertIs(type(group.table), tuple)
            for row in group.table:
                self.assertIs(type(row), tuple)
                for moves in row:
                    self.assertIs(type(moves), tuple)
                    self.assertTrue(all(type(move) is tuple and len(move) == 2 for move in moves))

    def test_the_table_is_the_least_one(self):
        for form, group, records in random_groups():
            for place, row in enumerate(group.table):
                self.assertEqual(len(set(row)), len(row))
                self.assertEqual(len(row), len({rest_of(records, record[:place]) for record in records}))
                if place < len(form):
                    led = [number for moves in row for _, number in moves]
                    self.assertEqual(list(dict.fromkeys(led)), list(range(len(group.table[place + 1]))))
                    self.assertTrue(all(moves == tuple(sorted(moves, key=lambda move: move[0] or 0)) for moves in row))

    def test_the_rests_part_the_beginnings(self):
        for form, group, records in random_groups():
            numbers = {(): 0}
            for place, row in enumerate(group.table):
                beginnings = {record[:place] for record in records}
                rests = {beginning: rest_of(records, beginning) for beginning in beginnings}
                for one, other in itertools.combinations(beginnings, 2):
                    self.assertEqual(numbers[one] == numbers[other], rests[one] == rests[other])
                onward = {}
                for beginning in beginnings:
                    for value, number in row[numbers[beginning]]:
                        onward[beginning + (value,)] = number
                numbers = onward
                if place < len(form):
                    self.assertEqual(set(numbers), {record[:place + 1] for record in records})

    def test_equal_just_by_their_tables(self):
        made = [(form, group, records) for form, group, records in random_groups(15)]
        for (form, group, records), (other, beside, more) in itertools.combinations(made, 2):
            self.assertEqual(group == beside, form == other and records == more)
            if form == other:
                self.assertEqual(group.table == beside.table, records == more)
        self.assertNotEqual(Group.every(read_form("ask a pick 2")), Group.every(read_form("ask b pick 2")))
        for thing in (None, 0, (), RENT, Group.every(RENT).table):
            self.assertIs(Group.every(RENT) == thing, False)


class Records(LeafCase):
    def test_as_the_words_tell(self):
        for form, group, records in random_groups():
            self.assertEqual((group.many(), group.first()), (len(records), records[0] if records else None))
            self.assertEqual(list(group.records()), records)
            self.assertEqual([group.nth(number) for number in range(len(records))], records)
            self.assertEqual([group.rank(record) for record in records], list(range(len(records))))
            self.assertIs(bool(group), bool(records))
            for record in all_records(form):
                self.assertIs(record in group, record in records)
                if record not in records:
                    self.assert_error(BadRecord(0), group.rank, record)

    def test_no_record_is_in_a_group(self):
        group = Group.every(RENT)
        wrong = (
            [0, None], (0, 0), (1, None), (1, 3), (True, 0), (False, None), (1, True), (1, False), (1.0, 0), (1, 0.0),
            (0,),
            (0, None, None), (Agreeing(), None), (1, Agreeing()), (None, None), (0, -1), (-1, None), "0", ((1,), 0),
        )
        for thing in (*ODD_THINGS, deep(130), *wrong):
            with self.subTest(repr(thing)[:60]):
                self.assertIs(thing in group, False)
                self.assert_error(BadRecord(0), group.rank, thing)
        self.assertIs((1, 2) in group, True)
        self.assertIs([] in Group.every(EMPTY), False)

    def test_bad_numbers(self):
        group = Group.every(RENT)
        for number in (-1, 4, 5, True, False, None, 1.0, "1", (), [1], 10 ** 29, -(10 ** 29), Agreeing()):
            self.assert_error(BadNumber(number), group.nth, number)
        self.assertEqual((group.nth(0), group.nth(3)), ((0, None), (1, 2)))
        for place in (-1, 3, True, False, None, 1.0, "1", (), [1], 10 ** 29, Agreeing()):
            self.assert_error(BadNumber(place), group.rests, place)
        self.assertEqual((group.rests(0), group.rests(1), group.rests(2)), (1, 2, 1))

    def test_records_are_told_one_by_one(self):
        group = Group.every(WIDE)
        found = list(itertools.islice(group.records(), 200))
        self.assertEqual(found, [group.nth(number) for number in range(200)])
        generator = group.records()
        self.assertIs(iter(generator), generator)
        self.assertEqual(next(generator), (0,) * 40)
        self.assertEqual([next(group.records()), next(generator)], [(0,) * 40, (0,) * 39 + (1,)])

    def test_very_many_records(self):
        group = Group.every(WIDE)
        self.assertEqual((group.many(), group.size), (63 ** 40, 41))
        self.assertEqual((group.nth(63 ** 40 - 1), group.rank((62,) * 40)), ((62,) * 40, 63 ** 40 - 1))
        self.assert_error(BadNumber(63 ** 40), group.nth, 63 ** 40)
        number = 123456789 ** 8
        figures = []
        left = number
        for _ in range(40):
            figures.insert(0, left % 63)
            left //= 63
        self.assertEqual(group.nth(number), tuple(figures))
        self.assertEqual(group.rank(tuple(figures)), number)
        some = Group.of(WIDE, ("sum", ("aa", "ee"), 0, 1))
        self.assertEqual((some.many(), some.first()), (3 * 63 ** 38, (0,) * 40))
        last = some.nth(some.many() - 1)
        self.assertEqual((last[0], last[36], some.rank(last)), (1, 0, 3 * 63 ** 38 - 1))

    def test_kinds_of_answers(self):
        form = read_form("ask a tick 2\nask b count 3 4 when has a 1\nask c pick 2 when asked b")
        self.assertEqual(list(Group.every(form).records()), [
            (1, None, None), (2, 3, 0), (2, 3, 1), (2, 4, 0), (2, 4, 1), (3, 3, 0), (3, 3, 1), (3, 4, 0), (3, 4, 1),
        ])


class Told(LeafCase):
    def test_as_the_words_tell(self):
        for form, group, records in random_groups():
            for place, name in enumerate(form.names):
                values = [record[place] for record in records]
                self.assertEqual(group.told(name), sorted_values(values))
                self.assertIs(type(group.told(name)), tuple)
                for value in (None, *range(-2, 9)):
                    kept = [record for record in records if record[place] == value]
                    having = group.having(name, value)
                    self.assertEqual((having, having.table), (Group.listed(form, kept), table_by_words(form, kept)))
                    self.assertEqual(having.form, form)
            places = [place for place in range(len(form)) if len({record[place] for record in records}) < 2]
            self.assertEqual(group.settled(), tuple(form.names[place] for place in places))

    def test_told_none_first(self):
        group = Group.every(read_form("ask a pick 2\nask b count 5 7 when is a 0"))
        self.assertEqual((group.told("a"), group.told("b")), ((0, 1), (None, 5, 6, 7)))

    def test_having_whatever_the_value_is(self):
        group = Group.every(RENT)
        self.assertEqual(list(group.having("rent", None).records()), [(0, None)])
        self.assertEqual(list(group.having("own", 0).records()), [(0, None)])
        for value in (*ODD_THINGS, 2, -1, 9, "0", [0], (1,), 1.0, 0.0):
            if value is None:
                continue
            with self.subTest(repr(value)[:60]):
                self.assertEqual(group.having("own", value), Group.listed(RENT, ()))
        self.assertEqual(group.having("own", None).many(), 0)
        self.assertEqual(group.having("rent", True).many(), 0)

    def test_unknown(self):
        group = Group.every(RENT)
        for name in ("Own", "", "owns", "rent1"):
            self.assert_error(Unknown(name), group.told, name)
            self.assert_error(Unknown(name), group.having, name, 0)
            self.assert_error(Unknown(name), group.having, name, "no")

    def test_settled(self):
        form = read_form("ask a pick 2\nask b pick 2 when is a 1\nask c pick 2 when not always")
        self.assertEqual(Group.every(form).settled(), ("c",))
        self.assertEqual(Group.every(form).having("a", 0).settled(), ("a", "b", "c"))
        self.assertEqual(Group.every(form).having("a", 1).settled(), ("a", "c"))
        self.assertEqual(Group.listed(form, ()).settled(), ("a", "b", "c"))
        self.assertEqual(Group.every(EMPTY).settled(), ())

    def test_nothing_is_changed(self):
        group = Group.every(RENT)
        table = group.table
        group.having("own", 0)
        list(group.records())
        self.assertEqual((~group).many(), 0)
        self.assertEqual(group.table, table)


class Of(LeafCase):
    def test_condition_holds_lawful_or_not(self):
        form = read_form("ask a pick 2\ncheck x is a 0\nask b pick 2 when is a 1\ncheck y not is b 0")
        self.assertEqual(list(Group.of(form, ALWAYS).records()), [(0, None), (1, 0), (1, 1)])
        self.assertEqual(list(Group.of(form, ("asked", "b")).records()), [(1, 0), (1, 1)])
        self.assertEqual(list(Group.lawful(form).records()), [(0, None)])
        self.assertEqual(list(Group.every(form).records()), [(0, None), (1, 0), (1, 1)])

    def test_as_the_walks_tell(self):
        for rng in seeded(20):
            form = random_form(rng)
            walk, found = Walk(form), []
            ahead = [()]
            while ahead:
                answers = ahead.pop()
                walk = Walk(form)
                for answer in answers:
                    walk.answer(answer)
                if walk.due is None:
                    if not walk.failing():
                        found.append(walk.so_far)
                else:
                    ahead.extend(answers + (answer,) for answer in answers_of(form.kind_of(walk.due))[::-1])
            self.assertEqual(list(Group.lawful(form).records()), found)

    def test_every_kind_of_condition(self):
        form = read_form(
            "ask a pick 3\nask b tick 3 when not is a 2\nask c count 2 6\nask d pick 3 when from c 3 4\nask e count 0 3"
        )
        for condition in (
            ALWAYS, ("asked", "b"), ("is", "a", (0, 2)), ("is", "b", (3, 5, 7)), ("has", "b", 0), ("has", "b", 2),
            ("from", "c", 0, 99), ("from", "c", 4, 4), ("sum", ("c", "e"), 4, 5), ("sum", ("e",), 0, 0),
            ("same", "a", "d"),
            ("not", ("same", "d", "a")), ("and", ("is", "d", (1,)), ("asked", "b"), ("from", "e", 0, 1)),
            ("or", ("is", "d", (1,)), ("not", ("asked", "b")), ("from", "e", 3, 3)), ("sum", ("e", "c"), 100, 495),
        ):
            with self.subTest(condition):
                group = Group.of(form, condition)
                self.assertEqual(list(group.records()), holding(form, condition))
                self.assertEqual(group.table, table_by_words(form, holding(form, condition)))

    def test_no_condition(self):
        for thing in (*NO_CONDITIONS, *ODD_THINGS, nots(120), deep(130)):
            with self.subTest(repr(thing)[:60]):
                self.assert_error(BadCondition(), Group.of, RENT, thing)
        self.assertEqual(Group.of(RENT, nots(118)), Group.every(RENT))
        self.assertEqual(Group.of(RENT, nots(119)).many(), 0)

    def test_errors_of_8(self):
        for condition, error in (
            (("asked", "z"), Unknown("z")), (("is", "own", (2,)), BadUse("own")),
            (("is", "rent", (1,)), BadUse("rent")),
            (("has", "own", 0), BadUse("own")), (("from", "own", 0, 1), BadUse("own")),
            (("sum", ("rent", "own"), 0, 1), BadUse("own")),
            (("same", "own", "rent"), BadUse("rent")), (("same", "x", "y"), Unknown("x")),
            (("same", "own", "y"), Unknown("y")),
            (("and", ("asked", "rent"), ("has", "own", 0), ("asked", "z")), BadUse("own")),
        ):
            with self.subTest(condition):
                self.assert_error(error, Group.of, RENT, condition)
        self.assert_error(Unknown("own"), Group.of, EMPTY, ("asked", "own"))

    def test_standing(self):
        both = ("same", "aa", "eh")
        self.assertEqual(Group.of(WIDE, both).many(), 63 ** 39)
        three = ("and", both, ("from", "ab", 0, 1))
        self.assert_error(TooMany("standing"), Group.of, WIDE, three)
        self.assert_error(BadUse("ad"), Group.of, WIDE, ("and", three, ("is", "ad", (1,))))
        self.assert_error(Unknown("z"), Group.of, WIDE, ("and", three, ("asked", "z")))
        self.assert_error(BadCondition(), Group.of, WIDE, ("and", three))

    def test_standing_counts_the_checks_of_the_form(self):
        form = read_form("ask a count 0 62\nask b count 0 62\nask c pick 2\ncheck x same a b\nask d pick 2")
        self.assertEqual(Group.of(form, ("asked", "d")).many(), 63 * 63 * 4)
        self.assert_error(TooMany("standing"), Group.of, form, ("asked", "c"))
        self.assertEqual(Group.of(form, ("same", "a", "b")).many(), 63 * 4)
        form = Form(form.flat + tuple(("check", "y" + letter, ALWAYS) for letter in "abcdefghijklmnopqrs"))
        self.assertEqual((len(form.checks), Group.of(form, ("asked", "d")).many()), (20, 63 * 63 * 4))

    def test_too_many_rests(self):
        # The rests of the places 0 to 7, and of the two places for each of the six questions behind.
        rests = [3 ** place for place in range(7)] + [729]
        for place in reversed(range(6)):
            rests += [2 * 3 ** place, 3 ** place]
        group = Group.every(HIGH)
        self.assertEqual([group.rests(place) for place in range(20)], rests)
        self.assertEqual(group.size, 2914)
        self.assertEqual(Group.of(HIGH, nots(118)).table, Group.every(HIGH).table)
        form = Form(HIGH.flat[:6] + (ask("h"),) + HIGH.flat[6:])
        for make in (Group.every, Group.lawful):
            self.assert_error(TooMany("rest"), make, form)
        self.assert_error(TooMany("rest"), Group.of, form, ("or", ALWAYS, ("asked", "fy")))
        self.assert_error(TooMany("standing"), Group.of, form, ("asked", "g"))
        self.assert_error(Unknown("z"), Group.of, form, ("and", ("asked", "g"), ("asked", "z")))
        self.assertEqual(Group.of(form, ("not", ALWAYS)).size, 0)


class Listed(LeafCase):
    def test_in_any_order_and_with_doubles(self):
        for rng in seeded(30):
            form = random_form(rng)
            some = [rng.choice(all_records(form)) for _ in range(rng.randint(0, 12))]
            group = Group.listed(form, some)
            self.assertEqual(list(group.records()), sorted(set(some)))
            for _ in range(3):
                rng.shuffle(some)
                self.assertEqual(Group.listed(form, tuple(some)), group)
            self.assertEqual(Group.listed(form, sorted(set(some), reverse=True)).table, group.table)

    def test_lawful_or_not(self):
        form = read_form("ask a pick 2\ncheck x is a 0")
        self.assertEqual(Group.listed(form, [(1,), (0,)]), Group.every(form))

    def test_bad_record(self):
        wrong = (
            [0, None], (0, 0), (1, None), (1, 3), (True, 0), (1, True), (1.0, 0), (0,), (0, None, None),
            (Agreeing(), None),
        )
        for thing in (*ODD_THINGS, deep(130), *wrong):
            with self.subTest(repr(thing)[:60]):
                self.assert_error(BadRecord(0), Group.listed, RENT, [thing])
                self.assert_error(BadRecord(2), Group.listed, RENT, ((1, 0), (1, 0), thing, thing))
        self.assert_error(BadRecord(0), Group.listed, EMPTY, [[]])

    def test_list_is_not_changed_and_not_kept(self):
        records = [(1, 2), (0, None), (1, 2)]
        group = Group.listed(RENT, records)
        self.assertEqual(records, [(1, 2), (0, None), (1, 2)])
        records.clear()
        self.assertEqual(group.many(), 2)

    def test_back_and_forth(self):
        for form, group, _ in random_groups(20):
            self.assertEqual(Group.listed(form, list(group.records())), group)

    def test_too_many_rests_at_the_bound(self):
        group = Group.listed(WIDE, wide_records(3000))
        self.assertEqual((group.size, group.many()), (3000, 80))
        self.assertEqual(list(group.records()), sorted(wide_records(3000)))
        self.assert_error(TooMany("rest"), Group.listed, WIDE, wide_records(3001))
        self.assert_error(BadRecord(80), Group.listed, WIDE, wide_records(3001) + [None])
        self.assertEqual(Group.listed(WIDE, wide_records(3000) * 2), group)


if __name__ == "__main__":
    unittest.main()
