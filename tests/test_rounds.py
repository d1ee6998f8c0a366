"""Promises [6], [7], [8] up to TooLong, and the interface of slipleaf/rounds.py."""

import copy
import unittest

from slipleaf.errors import BadItem, BadUse, TooLong, Twice, Unknown
from slipleaf.rounds import unrolled
from tests.helper import ALWAYS, ODD_THINGS, LeafCase, ask, deep, nots
from tests.test_conditions import NO_CONDITIONS
from tests.test_kinds import NO_KINDS

KIDS = ask("kids", ("count", 0, 2))
A = ("asked", "a")
B = ("asked", "b")


def parts(depth, items, word="part"):
    """Return items within so many parts, each under another question."""
    for at in reversed(range(depth)):
        items = ((word, ("asked", "pqrst"[at]), items),)
    return items


def asks(names):
    """Return an item for each letter that asks."""
    return tuple(ask(name) for name in names)


class Built(LeafCase):
    def test_right_items(self):
        for items in (
            (), [], (ask("a"),), [ask("a")], (ask("a1"),), (ask("abcdefgh5"),), (("check", "a", ALWAYS),),
            (("check", "a5", ALWAYS),), (("part", ALWAYS, ()),), (ask("a"), ("twice", "a", "b")),
            (ask("a1"), ("twice", "a1", "a2")), (KIDS, ("each", "kids", ())),
            (ask("kids5", ("count", 1, 5)), ("each", "kids5", ())),
        ):
            with self.subTest(items):
                unrolled(items)

    def test_bad_item(self):
        bad = (
            *ODD_THINGS, deep(130), "ask", ["ask", "a", ("pick", 2), ALWAYS], (b"ask", "a", ("pick", 2), ALWAYS),
            ("ask",), ("ask", "a"), ("ask", "a", ("pick", 2)), ("ask", "a", ("pick", 2), ALWAYS, ALWAYS),
            ("ask", "A", ("pick", 2), ALWAYS), ("ask", "ask", ("pick", 2), ALWAYS), ("ask", "a6", ("pick", 2), ALWAYS),
            ("ask", ("a",), ("pick", 2), ALWAYS), ("ask", None, ("pick", 2), ALWAYS), ("ask", "a", ALWAYS, ("pick", 2)),
            ("check",), ("check", "a"), ("check", "a", ALWAYS, ALWAYS), ("check", "A", ALWAYS), ("check", "a0", ALWAYS),
            ("check", ["a"], ALWAYS), ["check", "a", ALWAYS],
            ("part",), ("part", ALWAYS), ("part", ALWAYS, (), ()), ("part", ALWAYS, []), ("part", ALWAYS, [ask("b")]),
            ("part", ALWAYS, ask("b")), ("part", ALWAYS, None), ("part", (), ALWAYS), ["part", ALWAYS, ()],
            ("each",), ("each", "a"), ("each", "a", (), ()), ("each", "a", []), ("each", "A", ()), ("each", "a0", ()),
            ("each", None, ()), ("each", "a", None), ("each", "each", ()), ["each", "a", ()], ("each", ("a",), ()),
            ("twice",), ("twice", "a"), ("twice", "a", "b", "c"), ("twice", "A", "b"), ("twice", "a", "B"),
            ("twice", "a0", "b"), ("twice", "a", "b0"), ("twice", "is", "b"), ("twice", "a", "is"), ["twice", "a", "b"],
            ("twice", ("a",), "b"), ("twice", "a", None), ("end",), ("Ask", "a", ("pick", 2), ALWAYS), ("tell", "a"),
            ("tell", "kids", ()), ("tell", ALWAYS, ()), ("tell", "z", "y"), ("tell", "a", ALWAYS),
            ("tell", "a", ("pick", 2), ALWAYS),
        )
        for thing in bad:
            with self.subTest(repr(thing)[:60]):
                self.assert_error(BadItem(0), unrolled, (thing,))
                self.assert_error(BadItem(1), unrolled, [ask("z"), thing, thing])
                self.assert_error(BadItem(1), unrolled, (ask("z"), ("part", ALWAYS, (ask("x"), thing))))
                self.assert_error(BadItem(2), unrolled, (KIDS, ask("z"), ("each", "kids", (thing,))))

    def test_bad_kinds_and_conditions(self):
        for kind in NO_KINDS:
            with self.subTest(repr(kind)[:60]):
                self.assert_error(BadItem(0), unrolled, (("ask", "a", kind, ALWAYS),))
        for condition in (*NO_CONDITIONS, *ODD_THINGS, nots(120)):
            with self.subTest(repr(condition)[:60]):
                self.assert_error(BadItem(0), unrolled, (ask("a", ("pick", 2), condition),))
                self.assert_error(BadItem(0), unrolled, (("check", "a", condition),))
                self.assert_error(BadItem(0), unrolled, (("part", condition, ()),))

    def test_names_with_digits_are_not_defined_in_rounds(self):
        for item in (ask("a1"), ("check", "a1", ALWAYS), ("twice", "kids", "a1")):
            self.assert_error(BadItem(1), unrolled, (KIDS, ("each", "kids", (item,))))
            self.assert_error(BadItem(1), unrolled, (KIDS, ("each", "kids", (("part", ALWAYS, (item,)),))))
            self.assert_error(BadItem(1), unrolled, (KIDS, ("part", ALWAYS, (("each", "kids", (item,)),))))
            unrolled((KIDS, ("part", ALWAYS, (item,))))

    def test_names_with_digits_stand_in_rounds(self):
        items = (ask("a1"), KIDS, ("each", "kids", (ask("b", ("pick", 2), ("asked", "a1")), ("twice", "a1", "c"))))
        self.assertEqual(unrolled(items)[0][2][2], ("and", ("from", "kids", 1, 2), ("asked", "a1")))

    def test_no_round_in_a_round(self):
        inner = ("each", "kids", ())
        self.assert_error(BadItem(1), unrolled, (KIDS, ("each", "kids", (inner,))))
        self.assert_error(BadItem(1), unrolled, (KIDS, ("each", "kids", (("part", ALWAYS, (inner,)),))))
        self.assert_error(BadItem(1), unrolled, (KIDS, ("part", ALWAYS, (("each", "kids", (inner,)),))))
        unrolled((KIDS, inner, inner, ("part", ALWAYS, (inner, inner))))

    def test_four_within_one_another(self):
        ahead = asks("pqrst")
        self.assertEqual(len(unrolled(ahead + parts(4, (ask("a"),)))[0]), 6)
        self.assert_error(BadItem(5), unrolled, ahead + parts(5, (ask("a"),)))
        self.assert_error(BadItem(5), unrolled, ahead + parts(5, ()))
        self.assert_error(BadItem(6), unrolled, ahead + (KIDS,) + parts(4, (("each", "kids", ()),)))
        unrolled(ahead + (KIDS,) + parts(3, (("each", "kids", ()),)))
        unrolled((KIDS, ("each", "kids", (("part", ALWAYS, (("part", ALWAYS, (("part", ALWAYS, ()),)),)),))))
        four = ("part", ALWAYS, (("part", ALWAYS, (("part", ALWAYS, (("part", ALWAYS, ()),)),)),))
        self.assert_error(BadItem(1), unrolled, (KIDS, ("each", "kids", (four,))))

    def test_too_deep(self):
        thing = ()
        for _ in range(64):
            thing = (("part", ALWAYS, thing),) * 2
        self.assert_error(BadItem(0), unrolled, thing)

    def test_bad_item_goes_first(self):
        self.assert_error(BadItem(2), unrolled, (ask("a"), ask("a"), ("ask",)))
        self.assert_error(BadItem(1), unrolled, (ask("a", ("pick", 2), B), ask("a6")))
        self.assert_error(BadItem(1), unrolled, (ask("a"), ("part", B, (ask("a"), None)), None))


class Unrolled(LeafCase):
    def test_example(self):
        items = (KIDS, ("each", "kids", (ask("age", ("count", 0, 9)),)))
        self.assertEqual(unrolled(items)[0][2], ("age2", ("count", 0, 9), ("from", "kids", 2, 2)))

    def test_empty(self):
        for items in ((), [], (("part", ALWAYS, ()),)):
            self.assertEqual(unrolled(items), ((), ()))

    def test_plain_items(self):
        items = (
            ("check", "first", ALWAYS), ask("a", ("tick", 3)), ask("b", ("pick", 2), A),
            ("check", "c", ("has", "a", 2)), ("check", "a", ("not", B)), ask("d1", ("count", 3, 9), ("is", "b", (0,))),
            ("check", "d1", ("from", "d1", 0, 99)),
        )
        self.assertEqual(unrolled(items), (
            (("a", ("tick", 3), ALWAYS), ("b", ("pick", 2), A), ("d1", ("count", 3, 9), ("is", "b", (0,)))),
            (("first", 0, ALWAYS), ("c", 2, ("has", "a", 2)), ("a", 2, ("not", B)), ("d1", 3, ("from", "d1", 0, 99))),
        ))

    def test_a_list_is_as_good(self):
        items = (ask("a"), ("part", A, (ask("b"),)), ("check", "c", B))
        before = copy.deepcopy(items)
        listed = list(items)
        self.assertEqual(unrolled(listed), unrolled(items))
        self.assertEqual((items, listed), (before, list(before)))
        self.assertEqual([type(thing) for thing in unrolled(listed)], [tuple, tuple])

    def test_parts(self):
        for depth in range(5):
            around = tuple(("asked", name) for name in "pqrst"[:depth])
            for own in (ALWAYS, ("is", "p", (1,))):
                inner = (ask("a", ("pick", 2), own), ("check", "c", own), ("twice", "a", "b"))
                questions, checks = unrolled(asks("pqrst") + parts(depth, inner))
                joined = around + (() if own == ALWAYS else (own,))
                needs = [ALWAYS, joined[0] if joined else None, ("and",) + joined]
                self.assertEqual(questions[5], ("a", ("pick", 2), needs[min(len(joined), 2)]))
                again = around + (A,)
                self.assertEqual(questions[6], ("b", ("pick", 2), again[0] if depth == 0 else ("and",) + again))
                nays = tuple(("not", condition) for condition in around)
                same = ("same", "a", "b")
                wanted = (("or",) + nays + (own,), ("or",) + nays + (same,)) if depth else (own, same)
                self.assertEqual(checks, (("c", 6, wanted[0]), ("b", 7, wanted[1])))

    def test_always_around_counts_for_nothing(self):
        inner = (ask("b", ("pick", 2), A), ("check", "c", ALWAYS), ask("d"))
        for items in (
            (("part", ALWAYS, inner),),
            (("part", ALWAYS, (("part", ALWAYS, inner),)),),
        ):
            self.assertEqual(unrolled((ask("a"),) + items), unrolled((ask("a"),) + inner))
        one = (ask("a"), ("part", ALWAYS, (("part", A, (("part", ALWAYS, inner),)),)))
        self.assertEqual(unrolled(one), unrolled((ask("a"), ("part", A, inner))))
        self.assertEqual(unrolled(one)[1], (("c", 2, ("or", ("not", A), ALWAYS)),))

    def test_what_only_comes_to_always_counts(self):
        twice_not = ("not", ("not", ALWAYS))
        items = (("part", twice_not, (ask("a"), ask("b", ("pick", 2), twice_not))), ("check", "c", ALWAYS))
        self.assertEqual([need for _, _, need in unrolled(items)[0]], [twice_not, ("and", twice_not, twice_not)])

    def test_twice(self):
        items = (ask("a", ("count", 3, 7), ALWAYS), ("twice", "a", "b"), ("check", "c", ALWAYS), ("twice", "b", "d"))
        self.assertEqual(unrolled(items), (
            (("a", ("count", 3, 7), ALWAYS), ("b", ("count", 3, 7), A), ("d", ("count", 3, 7), B)),
            (("b", 2, ("same", "a", "b")), ("c", 2, ALWAYS), ("d", 3, ("same", "b", "d"))),
        ))


class Rounds(LeafCase):
    def test_times_and_conditions(self):
        for low, high in ((0, 1), (0, 5), (3, 5), (1, 2)):
            questions, checks = unrolled((ask("kids", ("count", low, high)), ("each", "kids", (ask("a"),))))
            wanted = [(f"a{k}", ("pick", 2), ("from", "kids", k, high)) for k in range(1, high + 1)]
            self.assertEqual(list(questions[1:]), wanted)
            self.assertEqual(checks, ())

    def test_names_of_the_round_get_the_digit(self):
        inner = (
            ask("a", ("count", 0, 5), ("is", "own", (1,))),
            ("part", ("from", "a", 1, 5), (
                ask("b", ("tick", 3), ("sum", ("a", "kids"), 0, 9)),
                ("twice", "a", "c"),
                ("check", "own", ("and", ("has", "b", 2), ("same", "a", "c"), ("asked", "own"))),
            )),
            ("twice", "own", "d"),
        )
        questions, checks = unrolled((ask("own"), KIDS, ("each", "kids", inner)))
        for k, at in ((1, 2), (2, 6)):
            name, member, around = str(k), ("from", "kids", k, 2), ("from", f"a{k}", 1, 5)
            self.assertEqual(questions[at:at + 4], (
                ("a" + name, ("count", 0, 5), ("and", member, ("is", "own", (1,)))),
                ("b" + name, ("tick", 3), ("and", member, around, ("sum", ("a" + name, "kids"), 0, 9))),
                ("c" + name, ("count", 0, 5), ("and", member, around, ("asked", "a" + name))),
                ("d" + name, ("pick", 2), ("and", member, ("asked", "own"))),
            ))
            nays = (("not", member), ("not", around))
            both = ("and", ("has", "b" + name, 2), ("same", "a" + name, "c" + name), ("asked", "own"))
            self.assertEqual(checks[3 * k - 3:3 * k], (
                ("c" + name, at + 3, ("or",) + nays + (("same", "a" + name, "c" + name),)),
                ("own" + name, at + 3, ("or",) + nays + (both,)),
                ("d" + name, at + 4, ("or", ("not", member), ("same", "own", "d" + name))),
            ))

    def test_names_with_digits_stay(self):
        inner = (ask("a"), ask("b", ("pick", 2), ("asked", "a1")), ("check", "c", ("asked", "a1")))
        questions, checks = unrolled((KIDS, ("each", "kids", inner)))
        needs = {name: need for name, _, need in questions}
        self.assertEqual(needs["b2"], ("and", ("from", "kids", 2, 2), ("asked", "a1")))
        self.assertEqual(checks[1][2], ("or", ("not", ("from", "kids", 2, 2)), ("asked", "a1")))

    def test_the_round_over_a_name_that_it_defines(self):
        inner = (ask("kids", ("count", 0, 9)), ("part", ("asked", "kids"), ()))
        questions, _ = unrolled((KIDS, ("each", "kids", inner)))
        self.assertEqual(questions[1:], (
            ("kids1", ("count", 0, 9), ("from", "kids", 1, 2)), ("kids2", ("count", 0, 9), ("from", "kids", 2, 2)),
        ))

    def test_names_ahead_of_their_definition(self):
        late = (ask("b", ("pick", 2), A), ask("a"))
        self.assert_error(Unknown("a1"), unrolled, (KIDS, ("each", "kids", late)))
        self.assert_error(Unknown("a1"), unrolled, (KIDS, ask("a"), ("each", "kids", late)))
        late = (("twice", "a", "b"), ("part", ALWAYS, (ask("a"),)))
        self.assert_error(Unknown("a1"), unrolled, (KIDS, ask("a"), ("each", "kids", late)))
        late = (("part", A, ()), ("twice", "kids", "a"))
        self.assert_error(Unknown("a1"), unrolled, (KIDS, ask("a"), ("each", "kids", late)))
        late = (("check", "c", A), ask("a"))
        self.assert_error(Unknown("a1"), unrolled, (KIDS, ask("a"), ("each", "kids", late)))

    def test_names_behind_the_round(self):
        items = (KIDS, ("each", "kids", (ask("a"),)), ask("b", ("pick", 2), ("asked", "a2")), ask("a"))
        self.assertEqual([name for name, _, _ in unrolled(items)[0]], ["kids", "a1", "a2", "b", "a"])
        self.assert_error(Unknown("a"), unrolled, (KIDS, ("each", "kids", (ask("a"),)), ("part", A, ())))

    def test_two_rounds(self):
        items = (KIDS, ("each", "kids", (ask("a"),)), ("each", "kids", (ask("b", ("pick", 2), ("asked", "a1")),)))
        self.assertEqual([name for name, _, _ in unrolled(items)[0]], ["kids", "a1", "a2", "b1", "b2"])
        again = items[:2] + (("each", "kids", (ask("b", ("pick", 2), A),)),)
        self.assert_error(Unknown("a"), unrolled, again)

    def test_errors_of_the_round(self):
        self.assert_error(Unknown("kids"), unrolled, (("each", "kids", (ask("a"),)),))
        self.assert_error(Unknown("kids"), unrolled, (("each", "kids", ()), KIDS))
        self.assert_error(BadUse("kids"), unrolled, (ask("kids"), ("each", "kids", ())))
        self.assert_error(BadUse("kids"), unrolled, (ask("kids", ("tick", 2)), ("each", "kids", ())))
        self.assert_error(BadUse("kids"), unrolled, (ask("kids", ("count", 0, 6)), ("each", "kids", ())))
        self.assert_error(BadUse("kids"), unrolled, (ask("kids", ("count", 5, 6)), ("each", "kids", ())))
        unrolled((ask("kids", ("count", 4, 5)), ("each", "kids", ())))

    def test_names_that_the_digits_make_alike(self):
        ahead = (ask("a1", ("count", 0, 9)), ask("b1"))
        for inner, wanted in (
            ((ask("a"),), Twice("a1")), ((ask("z"), ask("b")), Twice("b1")),
            ((("twice", "kids", "a"),), Twice("a1")),
            ((ask("z"), ask("z")), Twice("z1")), ((("check", "c", ALWAYS), ("check", "c", ALWAYS)), Twice("c1")),
        ):
            self.assert_error(wanted, unrolled, ahead + (KIDS, ("each", "kids", inner)))
        members = ("each", "kids", (("check", "c", ALWAYS),))
        self.assert_error(Twice("c2"), unrolled, (("check", "c2", ALWAYS), KIDS, members))
        inner = (ask("c", ("count", 0, 9)), ("check", "d", ("sum", ("c", "kids", "c1"), 0, 9)))
        self.assert_error(BadUse("c1"), unrolled, (KIDS, ("each", "kids", inner)))
        inner = (ask("c", ("count", 0, 9)), ("check", "d", ("same", "c", "c1")))
        self.assert_error(BadUse("c1"), unrolled, (KIDS, ("each", "kids", inner)))
        inner = (ask("c", ("count", 0, 9)), ("check", "d", ("same", "c1", "c")))
        self.assert_error(BadUse("c1"), unrolled, (KIDS, ("each", "kids", inner)))


class Errors(LeafCase):
    def test_twice(self):
        self.assert_error(Twice("a"), unrolled, (ask("a"), ask("a", ("pick", 3), B)))
        self.assert_error(Twice("a"), unrolled, (ask("a"), ("part", A, (ask("a"),))))
        self.assert_error(Twice("c"), unrolled, (("check", "c", ALWAYS), ("check", "c", B)))
        unrolled((ask("a"), ("check", "a", A)))
        unrolled((("check", "a", ALWAYS), ask("a")))

    def test_errors_of_twice(self):
        self.assert_error(Unknown("a"), unrolled, (("twice", "a", "a"),))
        self.assert_error(Unknown("a"), unrolled, (ask("b"), ("twice", "a", "b"), ask("a")))
        self.assert_error(Twice("a"), unrolled, (ask("a"), ("twice", "a", "a")))
        self.assert_error(Twice("b"), unrolled, (ask("a"), ask("b"), ("twice", "a", "b")))
        self.assert_error(Twice("c"), unrolled, (ask("a"), ("check", "c", ALWAYS), ("twice", "a", "c")))
        self.assert_error(Twice("b"), unrolled, (ask("a"), ("twice", "a", "b"), ask("b")))
        self.assert_error(Twice("b"), unrolled, (ask("a"), ("twice", "a", "b"), ("check", "b", ALWAYS)))

    def assert_use(self, wanted, condition):
        """The same errors are due wherever a condition may stand."""
        ahead = (ask("p", ("pick", 3)), ask("t", ("tick", 3)), ask("c", ("count", 0, 9)), ask("d", ("count", 0, 9)),
                 ask("e", ("count", 0, 8)), ask("q", ("pick", 3)), ask("s", ("pick", 4)))
        for item in (ask("x", ("pick", 2), condition), ("check", "x", condition), ("part", condition, ())):
            if wanted is None:
                unrolled(ahead + (item, ask("z")))
            else:
                self.assert_error(wanted, unrolled, ahead + (item, ask("z")))

    def test_unknown(self):
        for condition in (
            ("asked", "z"), ("is", "z", (0,)), ("has", "z", 0), ("from", "z", 0, 1), ("sum", ("z",), 0, 1),
            ("sum", ("c", "z"), 0, 1), ("sum", ("z", "c"), 0, 1), ("same", "z", "c"), ("same", "c", "z"),
            ("not", ("asked", "z")), ("and", ALWAYS, ("asked", "z")), ("or", ("asked", "z"), ALWAYS),
        ):
            with self.subTest(condition):
                self.assert_use(Unknown("z"), condition)
        self.assert_error(Unknown("x"), unrolled, (ask("x", ("pick", 2), ("asked", "x")),))
        self.assert_error(Unknown("x"), unrolled, (("check", "x", ("asked", "x")), ask("x")))
        self.assert_error(Unknown("c"), unrolled, (("check", "c", ALWAYS), ask("x", ("pick", 2), ("asked", "c"))))

    def test_kinds(self):
        for name in "ptcdeqs":
            self.assert_use(None, ("asked", name))
        self.assert_use(None, ("is", "p", (0, 1, 2)))
        self.assert_use(None, ("is", "t", (1, 2, 3, 4, 5, 6, 7)))
        self.assert_use(BadUse("c"), ("is", "c", (0,)))
        for box in (0, 1, 2):
            self.assert_use(None, ("has", "t", box))
        self.assert_use(BadUse("p"), ("has", "p", 0))
        self.assert_use(BadUse("c"), ("has", "c", 0))
        self.assert_use(None, ("from", "c", 10, 99))
        self.assert_use(BadUse("p"), ("from", "p", 0, 1))
        self.assert_use(BadUse("t"), ("from", "t", 0, 1))
        self.assert_use(None, ("sum", ("c", "d", "e"), 0, 495))
        self.assert_use(BadUse("p"), ("sum", ("p",), 0, 1))
        self.assert_use(BadUse("t"), ("sum", ("c", "t", "z"), 0, 1))

    def test_answers_and_boxes(self):
        self.assert_use(BadUse("p"), ("is", "p", (3,)))
        self.assert_use(BadUse("p"), ("is", "p", (0, 3)))
        self.assert_use(BadUse("p"), ("is", "p", (2, 15)))
        self.assert_use(BadUse("t"), ("is", "t", (0,)))
        self.assert_use(BadUse("t"), ("is", "t", (0, 1)))
        self.assert_use(BadUse("t"), ("is", "t", (7, 8)))
        self.assert_use(BadUse("t"), ("has", "t", 3))
        every = ("is", "t", tuple(range(1, 16)))
        unrolled((ask("t", ("tick", 4)), ("check", "x", ("has", "t", 3)), ("check", "y", every)))

    def test_same(self):
        self.assert_use(None, ("same", "p", "q"))
        self.assert_use(None, ("same", "d", "c"))
        self.assert_use(BadUse("s"), ("same", "p", "s"))
        self.assert_use(BadUse("p"), ("same", "s", "p"))
        self.assert_use(BadUse("e"), ("same", "c", "e"))
        self.assert_use(BadUse("c"), ("same", "t", "c"))
        self.assert_use(Unknown("y"), ("same", "y", "z"))

    def test_in_the_order_of_the_names(self):
        self.assert_use(Unknown("y"), ("and", ("asked", "y"), ("asked", "z")))
        self.assert_use(BadUse("c"), ("or", ("is", "c", (0,)), ("asked", "z")))
        self.assert_use(Unknown("z"), ("or", ("not", ("asked", "z")), ("is", "c", (0,))))
        self.assert_use(Unknown("z"), ("sum", ("c", "z", "p"), 0, 1))
        self.assert_use(BadUse("p"), ("sum", ("c", "p", "z"), 0, 1))
        self.assert_use(Unknown("z"), ("and", ("and", ALWAYS, ("same", "p", "z")), ("has", "p", 0)))
        self.assert_use(BadUse("p"), ("and", ("not", ("has", "p", 0)), ("and", ALWAYS, ("asked", "z"))))

    def test_in_the_order_of_the_items(self):
        self.assert_error(Unknown("b"), unrolled, (ask("a"), ask("c", ("pick", 2), B), ask("a")))
        self.assert_error(Twice("a"), unrolled, (ask("a"), ask("a"), ask("c", ("pick", 2), B)))
        self.assert_error(Twice("a"), unrolled, (ask("a"), ask("a", ("pick", 2), B)))
        self.assert_error(Unknown("b"), unrolled, (ask("a"), ("part", B, (ask("a"),))))
        self.assert_error(Twice("a"), unrolled, (ask("a"), ("part", A, (ask("a"),)), ("part", B, ())))


class Lengths(LeafCase):
    def around(self, count, items):
        """Return items with items in a part whose condition has so many words."""
        return (ask("a"), ("part", nots(count - 2, A), items))

    def test_need(self):
        # ( E and own ) has three words besides.
        for outer, own in ((114, 2), (60, 56), (3, 113)):
            right = self.around(outer, (ask("b", ("pick", 2), nots(own - 1)),))
            self.assertEqual(len(unrolled(right)[0]), 2)
            right = self.around(outer, (ask("b", ("pick", 2), nots(own)),))
            self.assertEqual(len(unrolled(right)[0]), 2)
            wrong = self.around(outer, (ask("b", ("pick", 2), nots(own + 1)),))
            self.assert_error(TooLong("b"), unrolled, wrong)

    def test_need_without_own(self):
        self.assertEqual(len(unrolled(self.around(120, (ask("b"),)))[0]), 2)

    def test_own_need_alone(self):
        unrolled((ask("a"), ask("b", ("pick", 2), nots(118, A))))

    def test_check(self):
        # ( not E or own ) has four words besides.
        for outer, own in ((114, 2), (60, 56), (3, 113)):
            self.assertEqual(len(unrolled(self.around(outer, (("check", "b", nots(own - 2)),)))[1]), 1)
            self.assertEqual(len(unrolled(self.around(outer, (("check", "b", nots(own - 1)),)))[1]), 1)
            self.assert_error(TooLong("b"), unrolled, self.around(outer, (("check", "b", nots(own)),)))
        self.assertEqual(len(unrolled(self.around(115, (("check", "b", ALWAYS),)))[1]), 1)
        self.assert_error(TooLong("b"), unrolled, self.around(116, (("check", "b", ALWAYS),)))

    def test_twice(self):
        # The check that it brings, ( not E or same a b ), is longer than the need.
        unrolled(self.around(113, (("twice", "a", "b"),)))
        self.assert_error(TooLong("b"), unrolled, self.around(114, (("twice", "a", "b"),)))
        self.assert_error(TooLong("b"), unrolled, self.around(120, (("twice", "a", "b"),)))

    def test_more_around(self):
        # ( E and F and own ) has four words besides, ( not E or not F or own ) six.
        for item in (lambda own: ask("b", ("pick", 2), nots(own - 1)), lambda own: ("check", "b", nots(own - 3))):
            for own in (3, 4):
                unrolled(self.around(52, (("part", nots(58, A), (item(own),)),)))
            wrong = self.around(52, (("part", nots(58, A), (item(5),)),))
            self.assert_error(TooLong("b"), unrolled, wrong)

    def test_in_rounds(self):
        inner = (ask("b"), ask("c", ("pick", 2), nots(111, B)), ask("d", ("pick", 2), nots(112, B)))
        self.assert_error(TooLong("d1"), unrolled, (KIDS, ("each", "kids", inner)))
        unrolled((KIDS, ("each", "kids", inner[:2])))

    def test_a_part_is_not_asked_for_its_length(self):
        items = self.around(120, (("part", nots(118, A), ()),))
        self.assertEqual(unrolled(items), ((("a", ("pick", 2), ALWAYS),), ()))

    def test_behind_the_other_errors_of_the_item(self):
        for item, wanted in (
            (ask("a", ("pick", 2), nots(60)), Twice("a")),
            (ask("b", ("pick", 2), nots(60, ("asked", "z"))), Unknown("z")),
            (("check", "c", nots(60)), Twice("c")), (("check", "b", nots(60, ("has", "a", 0))), BadUse("a")),
            (("twice", "z", "b"), Unknown("z")), (("twice", "a", "a"), Twice("a")), (("twice", "a", "c"), Twice("c")),
        ):
            self.assert_error(wanted, unrolled, (("check", "c", ALWAYS),) + self.around(120, (item,)))

    def test_ahead_of_the_errors_of_later_items(self):
        long_one = ask("b", ("pick", 2), nots(60))
        self.assert_error(TooLong("b"), unrolled, self.around(120, (long_one, ask("a"))))
        self.assert_error(Twice("a"), unrolled, self.around(120, (ask("a"), long_one)))


if __name__ == "__main__":
    unittest.main()
