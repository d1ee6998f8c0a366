"""Promises [1], [7] to [10], and the interface of slipleaf/forms.py."""

import copy
import unittest

from slipleaf.conditions import names_in
from slipleaf.errors import BadItem, BadNumber, BadUse, TooLong, TooMany, Twice, Unknown
from slipleaf.forms import Form
from slipleaf.kinds import size_of
from slipleaf.rounds import unrolled
from tests.helper import ALWAYS, LeafCase, ask, deep, nots

ITEMS = (
    ("check", "early", ALWAYS),
    ask("own"),
    ask("kids", ("count", 0, 2), ("is", "own", (1,))),
    ("part", ("asked", "kids"), (
        ("each", "kids", (ask("age", ("count", 0, 9)), ("check", "old", ("not", ("from", "age", 9, 9))))),
        ask("pets", ("tick", 3)),
    )),
    ("check", "sums", ("sum", ("age1", "age2"), 0, 9)),
    ("twice", "pets", "petsb"),
    ("check", "late", ("has", "petsb", 0)),
)
NAMES = ("own", "kids", "age1", "age2", "pets", "petsb")


def many(count, word):
    """Return so many items that ask or check, under different names."""
    names = [first + second for first in "abcdefgh" for second in "abcdefgh"][:count]
    return tuple(ask(name) if word == "ask" else ("check", name, ALWAYS) for name in names)


def standing(*kinds):
    """Return items of which the last one needs a question of each of these kinds."""
    names = "abcdefghijklmnop"[:len(kinds)]
    needs = tuple(("asked", name) for name in names)
    asks = tuple(ask(name, kind) for name, kind in zip(names, kinds))
    need = needs[0] if len(needs) == 1 else ("and",) + needs[:5] + (("or",) + needs[5:] + (ALWAYS, ALWAYS),)
    return asks + (ask("z", ("pick", 2), need),)


def live_by_words(form, place):
    """Return the names that are live at a place, as the words of [9] tell it."""
    later = [need for _, _, need in form.questions[place:]]
    later += [condition for _, at, condition in form.checks if at >= place]
    named = {name for condition in later for name in names_in(condition)}
    return tuple(name for at, name in enumerate(form.names) if at < place and name in named)


class Attributes(LeafCase):
    def test_of_a_form(self):
        form = Form(ITEMS)
        self.assertEqual(form.source, ITEMS)
        self.assertEqual((form.questions, form.checks), unrolled(ITEMS))
        self.assertEqual(form.names, NAMES)
        self.assertEqual([check[:2] for check in form.checks], [
            ("early", 0), ("old1", 3), ("old2", 4), ("sums", 5), ("petsb", 6), ("late", 6),
        ])
        for thing in (form.source, form.questions, form.checks, form.names, form.flat):
            self.assertIs(type(thing), tuple)

    def test_empty(self):
        for items in ((), []):
            form = Form(items)
            self.assertEqual((form.source, form.names, form.questions, form.checks, form.flat), ((),) * 5)
            self.assertEqual((len(form), list(form), form.live_at(0), form.weight_at(0)), (0, [], (), 1))

    def test_source_is_as_passed(self):
        items = (("part", ALWAYS, (ask("a"), ("part", ALWAYS, ()))), ("check", "c", ("not", ("not", ALWAYS))))
        self.assertEqual(Form(items).source, items)
        self.assertEqual(Form(list(items)).source, items)

    def test_questions(self):
        form = Form(ITEMS)
        for place, (name, kind, need) in enumerate(form.questions):
            self.assertEqual(form.place_of(name), place)
            self.assertEqual(form.kind_of(name), kind)
            self.assertEqual(form.need_of(name), need)
        self.assertEqual(form.kind_of("age2"), ("count", 0, 9))
        self.assertEqual(form.need_of("age2"), ("and", ("asked", "kids"), ("from", "kids", 2, 2)))
        self.assertEqual(form.need_of("petsb"), ("asked", "pets"))

    def test_unknown(self):
        form = Form(ITEMS)
        for name in ("age", "late", "sums", "old1", "", "kids1", "OWN", "own "):
            for call in (form.place_of, form.kind_of, form.need_of):
                self.assert_error(Unknown(name), call, name)

    def test_len_in_and_iteration(self):
        form = Form(ITEMS)
        self.assertEqual(len(form), 6)
        self.assertEqual(list(form), list(NAMES))
        self.assertEqual(tuple(form), NAMES)
        self.assertEqual([name in form for name in NAMES], [True] * 6)
        self.assertEqual([name in form for name in ("age", "late", "", "early", "OWN")], [False] * 5)
        self.assertEqual([first + second for first in form for second in form][7], "kidskids")


class Errors(LeafCase):
    def test_of_items(self):
        self.assert_error(BadItem(1), Form, (ask("a"), ["ask"]))
        self.assert_error(Twice("a"), Form, (ask("a"), ask("a")))
        self.assert_error(Unknown("b"), Form, (ask("a", ("pick", 2), ("asked", "b")),))
        self.assert_error(BadUse("a"), Form, (ask("a"), ("check", "c", ("has", "a", 0))))
        self.assert_error(TooLong("b"), Form, (ask("a"), ("part", nots(119), (ask("b", ("pick", 2), ("asked", "a")),))))

    def test_too_many_questions(self):
        self.assertEqual(len(Form(many(40, "ask"))), 40)
        self.assert_error(TooMany("question"), Form, many(41, "ask"))
        five = (ask("kids", ("count", 0, 5)),)
        rounds = tuple(("each", "kids", many(8, "ask")[at:at + 1]) for at in range(7))
        self.assertEqual(len(Form(five + rounds + many(13, "ask")[9:13])), 40)
        self.assert_error(TooMany("question"), Form, five + rounds + many(14, "ask")[9:14])

    def test_too_many_checks(self):
        self.assertEqual(len(Form(many(20, "check")).checks), 20)
        self.assert_error(TooMany("check"), Form, many(21, "check"))
        again = tuple(("twice", "x", "y" + letter) for letter in "abcdefghijklmnopqrstu")
        self.assertEqual(len(Form((ask("x"),) + again[:20]).checks), 20)
        self.assert_error(TooMany("check"), Form, (ask("x"),) + again)

    def test_standing_at_its_bound(self):
        for kinds, weight in (
            ((("tick", 4),) * 3, 4096), ((("pick", 3),) * 6, 4096), ((("count", 0, 62), ("count", 1, 63)), 4096),
        ):
            form = Form(standing(*kinds))
            self.assertEqual(form.weight_at(len(kinds)), weight)
        for kinds in (
            (("tick", 4),) * 3 + (("pick", 2),), (("count", 0, 39), ("count", 0, 98)), (("count", 0, 99),) * 2,
            (("count", 0, 62), ("count", 1, 64)), (("pick", 3),) * 5 + (("pick", 4),),
        ):
            self.assert_error(TooMany("standing"), Form, standing(*kinds))

    def test_standing_by_checks(self):
        items = (ask("a", ("count", 0, 62)), ask("b", ("count", 0, 62)), ask("c"))
        behind = ("check", "x", ("same", "a", "b"))
        self.assertEqual(Form(items + (behind,)).weight_at(3), 4096)
        self.assert_error(TooMany("standing"), Form, items + (behind, ("check", "y", ("asked", "c"))))
        Form(items[:2] + (behind,) + items[2:] + (("check", "y", ("asked", "c")),))

    def test_order_of_errors(self):
        over = standing(("count", 0, 99), ("count", 0, 99))
        self.assert_error(TooMany("question"), Form, many(21, "check") + many(38, "ask") + over)
        self.assert_error(TooMany("check"), Form, many(21, "check") + over)
        self.assert_error(TooMany("standing"), Form, many(20, "check") + over)
        self.assert_error(Twice("aa"), Form, many(41, "ask") + many(1, "ask"))
        self.assert_error(BadItem(42), Form, many(41, "ask") + many(1, "ask") + (None,))


class Standing(LeafCase):
    def test_live_and_weight(self):
        form = Form((
            ask("a", ("pick", 3)), ask("b", ("tick", 2)), ("check", "x", ("asked", "a")),
            ask("c", ("count", 2, 4), ("asked", "b")), ask("d", ("pick", 2), ("asked", "b")), ask("e"),
            ("check", "y", ("asked", "c")),
        ))
        told = [(form.live_at(place), form.weight_at(place)) for place in range(6)]
        self.assertEqual(told, [
            ((), 1), (("a",), 4), (("a", "b"), 16), (("b", "c"), 16), (("c",), 4), (("c",), 4),
        ])

    def test_as_the_words_tell(self):
        for items in (ITEMS, standing(("pick", 2), ("pick", 3), ("tick", 2)), many(9, "ask"), ITEMS[:3], ITEMS[:4]):
            form = Form(items)
            for place in range(len(form) + 1):
                live = live_by_words(form, place)
                weight = 1
                for name in live:
                    weight *= size_of(form.kind_of(name)) + 1
                self.assertEqual((form.live_at(place), form.weight_at(place)), (live, weight))
                self.assertIs(type(form.live_at(place)), tuple)

    def test_bad_number(self):
        form = Form(ITEMS)
        for place in (-1, 7, 8, True, False, None, 1.0, "1", (), [1], deep(130), 10 ** 29, -(10 ** 29)):
            self.assert_error(BadNumber(place), form.live_at, place)
            self.assert_error(BadNumber(place), form.weight_at, place)
        self.assertEqual((form.live_at(6), form.weight_at(6)), (("pets", "petsb"), 64))


class Flat(LeafCase):
    def test_flat(self):
        form = Form((
            ("check", "x", ALWAYS), ask("a"), ("part", ("asked", "a"), (ask("b"), ("check", "y", ALWAYS))),
            ("check", "z", ALWAYS), ("twice", "b", "c"), ("check", "w", ALWAYS),
        ))
        self.assertEqual(form.flat, (
            ("check", "x", ALWAYS), ask("a"), ask("b", ("pick", 2), ("asked", "a")),
            ("check", "y", ("or", ("not", ("asked", "a")), ALWAYS)), ("check", "z", ALWAYS),
            ask("c", ("pick", 2), ("asked", "b")), ("check", "c", ("same", "b", "c")), ("check", "w", ALWAYS),
        ))

    def test_makes_an_equal_form(self):
        for items in (ITEMS, (), many(40, "ask"), many(20, "check"), standing(("tick", 4), ("tick", 4), ("tick", 4))):
            form = Form(items)
            again = Form(form.flat)
            self.assertTrue(again == form)
            self.assertEqual((again.questions, again.checks, again.flat), (form.questions, form.checks, form.flat))
            self.assertEqual(again.source, form.flat)

    def test_checks_of_one_place_keep_their_order(self):
        ahead = (("check", "b", ALWAYS), ("check", "a", ALWAYS))
        items = ahead + (ask("q"), ("check", "d", ALWAYS), ("check", "c", ALWAYS))
        self.assertEqual(Form(items).flat, items)


class Equal(LeafCase):
    def test_equal(self):
        one = Form((ask("a"), ("part", ("asked", "a"), (ask("b"),))))
        other = Form([ask("a"), ask("b", ("pick", 2), ("asked", "a")), ("part", ALWAYS, ())])
        self.assertIs(one == other, True)
        self.assertIs(one != other, False)
        self.assertIs(one == one, True)

    def test_not_equal(self):
        form = Form((ask("a"), ask("b"), ("check", "c", ALWAYS), ("check", "d", ALWAYS)))
        for items in (
            (), (ask("a"), ask("b")), (ask("b"), ask("a"), ("check", "c", ALWAYS), ("check", "d", ALWAYS)),
            (ask("a"), ask("b"), ("check", "d", ALWAYS), ("check", "c", ALWAYS)),
            (ask("a"), ("check", "c", ALWAYS), ask("b"), ("check", "d", ALWAYS)),
            (ask("a"), ask("b", ("pick", 3)), ("check", "c", ALWAYS), ("check", "d", ALWAYS)),
            (ask("a"), ask("b", ("pick", 2), ("asked", "a")), ("check", "c", ALWAYS), ("check", "d", ALWAYS)),
            (ask("a"), ask("b"), ("check", "c", ALWAYS), ("check", "d", ("not", ALWAYS))),
            (ask("a"), ask("e"), ("check", "c", ALWAYS), ("check", "d", ALWAYS)),
        ):
            self.assertIs(form == Form(items), False)
            self.assertIs(form != Form(items), True)

    def test_with_another_kind_of_thing(self):
        form = Form((ask("a"),))
        things = (None, True, 0, 1, "a", ("a",), ["a"], {}, form.source, form.questions, form.names, Form, object())
        for thing in things:
            self.assertIs(form == thing, False)
            self.assertIs(thing == form, False)
        self.assertIs(Form(()) == (), False)


class Apart(LeafCase):
    def test_what_was_passed_is_unchanged(self):
        items = list(ITEMS)
        before = copy.deepcopy(items)
        form = Form(items)
        form.live_at(3)
        len(form.flat)
        self.assertEqual(items, before)

    def test_a_list_that_the_caller_changes(self):
        items = list(ITEMS)
        form = Form(items)
        items.append(ask("more"))
        del items[0]
        items[0] = ask("less")
        self.assertEqual(form.source, ITEMS)
        self.assertEqual(form.names, NAMES)
        self.assertTrue(form == Form(ITEMS))

    def test_two_forms_by_turns(self):
        first = (ask("a", ("tick", 2)), ask("b", ("pick", 2), ("has", "a", 1)), ("check", "c", ("asked", "b")))
        second = (ask("b", ("count", 3, 5)), ask("a", ("pick", 4)), ("check", "c", ("sum", ("b",), 0, 9)))
        calls = (
            lambda form: form.names, lambda form: form.place_of("a"), lambda form: form.kind_of("b"),
            lambda form: form.need_of("b"), lambda form: form.live_at(1), lambda form: form.weight_at(2),
            lambda form: form.flat, lambda form: list(form), lambda form: form.checks, lambda form: form == Form(first),
        )
        alone = [[call(Form(items)) for call in calls] for items in (first, second)]
        one, other = Form(first), Form(second)
        found = [(call(one), call(other), call(one), call(other)) for call in calls]
        self.assertEqual(found, [(a, b, a, b) for a, b in zip(*alone)])

    def test_no_name_is_kept_from_one_form_to_the_next(self):
        Form((ask("a"), ("check", "c", ALWAYS)))
        self.assert_error(Unknown("a"), Form, (("check", "d", ("asked", "a")),))
        self.assertEqual(Form((ask("a"), ("check", "c", ALWAYS))).names, ("a",))


if __name__ == "__main__":
    unittest.main()
