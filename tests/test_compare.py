"""Promise k15, points [13], [14], [19]: same questions, and how two forms part."""

import copy
import random
import unittest

from slipleaf.compare import parting, same_questions
from slipleaf.conditions import names_in
from slipleaf.errors import Unlike
from slipleaf.forms import Form
from slipleaf.groups import Group
from slipleaf.reading import read_form
from tests.helper import ALWAYS, LeafCase, ask
from tests.oracle import kinds_in, parting_by_words, random_condition, random_form, seeded

EMPTY = Form(())
ABC = "ask a pick 2\nask b pick 2{}\nask c pick 2{}\nask d pick 2{}"


def abc(b="", c="", d="", more=""):
    """Return a form of four questions with these needs."""
    return read_form(ABC.format(*[" when " + need if need else "" for need in (b, c, d)]) + more)


def changed(rng, form):
    """Return a form with the same questions in which one need or check is another."""
    items = list(form.flat)
    at = rng.randrange(len(items))
    kinds = kinds_in(form)
    if items[at][0] == "ask":
        ahead = form.names[:form.place_of(items[at][1])]
    else:
        ahead = form.names[:[place for name, place, _ in form.checks if name == items[at][1]][0]]
    need = random_condition(rng, {name: kinds[name] for name in ahead})
    if rng.random() < 0.3:
        need = ("not", ("not", items[at][-1]))
    items[at] = items[at][:-1] + (need,)
    return Form(items)


class SameQuestions(LeafCase):
    def test_names_and_kinds_in_order(self):
        form = abc()
        for other, same in (
            (form, True), (abc("is a 0", "asked b", "same a b"), True), (abc(more="\ncheck x is a 0"), True),
            (EMPTY, False),
            (read_form("ask a pick 2\nask b pick 2\nask c pick 2"), False),
            (read_form("ask a pick 2\nask b pick 2\nask d pick 2\nask c pick 2"), False),
            (read_form("ask a pick 2\nask b pick 3\nask c pick 2\nask d pick 2"), False),
            (read_form("ask a pick 2\nask b tick 2\nask c pick 2\nask d pick 2"), False),
            (read_form("ask a pick 2\nask e pick 2\nask c pick 2\nask d pick 2"), False),
            (read_form("ask a pick 2\ntwice a b\ntwice a c\ntwice a d"), True),
        ):
            self.assertIs(same_questions(form, other), same)
            self.assertIs(same_questions(other, form), same)
            if not same:
                self.assert_error(Unlike(), parting, form, other)
                self.assert_error(Unlike(), parting, other, form)
        self.assertIs(same_questions(EMPTY, EMPTY), True)
        self.assertIs(same_questions(EMPTY, read_form("check x not always")), True)
        one, other = read_form("ask a count 0 3"), read_form("ask a count 0 4")
        self.assertIs(same_questions(one, other), False)


class Parting(LeafCase):
    def test_in_asking(self):
        for one, other, told in (
            (abc(), abc("is a 1"), ("asks", (0,), "b", "c")), (abc("is a 1"), abc("is a 0"), ("asks", (0,), "c", "b")),
            (abc("is a 1", "is b 0", "is b 0"), abc("is a 1", "is b 0", "is b 1"), ("asks", (1, 1), None, "d")),
            (abc(d="is a 1"), abc(), ("asks", (0, 0, 0), None, "d")),
            (abc(d="not always"), abc(), ("asks", (0, 0, 0), None, "d")),
            (abc("is a 1", "is a 1"), abc("is a 1", "is b 1"), ("asks", (1, 0), "c", "d")),
            (read_form("ask a pick 2"), read_form("ask a pick 2 when not always"), ("asks", (), "a", None)),
            (
                read_form("ask a pick 2\nask b pick 2"), read_form("ask a pick 2 when not always\nask b pick 2"),
                ("asks", (), "a", "b"),
            ),
        ):
            with self.subTest(told):
                self.assertEqual(parting(one, other), told)
                self.assertEqual(parting(other, one), told[:2] + (told[3], told[2]))

    def test_the_fewest_answers_count_and_not_the_first_place(self):
        # The parting at d needs one answer, the one at c two.
        one, other = abc("is a 0", "is b 0", "is a 0"), abc("is a 0", "is b 1", "always")
        self.assertEqual(parting(one, other), ("asks", (1,), None, "d"))
        one, other = abc("is a 1", "is b 0", "is a 1"), abc("is a 1", "is b 1", "always")
        self.assertEqual(parting(one, other), ("asks", (0,), None, "d"))

    def test_of_as_few_the_first_answers(self):
        one, other = abc("always", "is b 1", "always"), abc("always", "is b 0", "always")
        self.assertEqual(parting(one, other), ("asks", (0, 0), "d", "c"))
        one, other = abc("always", "( is a 1 or is b 0 )"), abc("always", "( is a 0 or is b 0 )")
        self.assertEqual(parting(one, other), ("asks", (0, 1), "d", "c"))
        form = "ask a tick 2\nask b count 8 9\nask c pick 2"
        self.assertEqual(parting(read_form(form), read_form(form + " when from b 0 8")), ("asks", (1, 9), "c", None))

    def test_never_though_the_needs_differ(self):
        one = abc("is a 1", "asked b", "( is a 0 or is a 1 )")
        other = abc("not is a 0", "is a 1")
        self.assertIsNone(parting(one, other))
        self.assertEqual(Group.every(one).table, Group.every(other).table)
        self.assertIsNone(parting(EMPTY, EMPTY))
        self.assertIsNone(parting(one, one))
        # A round twice over the same, told in two ways.
        one = read_form("ask kids count 0 2\neach kids\nask age count 0 1\nend")
        other = read_form(
            "ask kids count 0 2\nask age1 count 0 1 when not from kids 0 0\nask age2 count 0 1 when from kids 2 9"
        )
        self.assertIsNone(parting(one, other))

    def test_in_checks(self):
        form = abc("is a 1")
        for check, told in (
            ("always", None), ("( is a 0 or is a 1 )", None), ("not always", ("checks", (0, None, 0, 0))),
            ("is a 0", ("checks", (1, 0, 0, 0))), ("not is b 1", ("checks", (1, 1, 0, 0))),
            ("not same c d", ("checks", (0, None, 0, 0))),
            ("( is a 0 or is b 0 or is d 0 )", ("checks", (1, 1, 0, 1))), ("same c d", ("checks", (0, None, 0, 1))),
        ):
            other = abc("is a 1", more="\ncheck x " + check)
            self.assertEqual(parting(form, other), told)
            self.assertEqual(parting(other, form), told)
        self.assertEqual(parting(EMPTY, read_form("check x not always")), ("checks", ()))
        self.assertIsNone(parting(EMPTY, read_form("check x always")))

    def test_checks_by_what_they_say_together(self):
        one = abc(more="\ncheck x is a 0\ncheck y is b 1")
        other = read_form(
            "ask a pick 2\ncheck z is a 0\nask b pick 2\nask c pick 2\nask d pick 2\ncheck x ( is a 0 and is b 1 )"
        )
        self.assertIsNone(parting(one, other))
        none = abc(more="\ncheck x not always")
        self.assertIsNone(parting(none, abc(more="\ncheck y ( is a 0 and is a 1 )")))

    def test_asking_goes_ahead_of_checks(self):
        self.assertEqual(parting(abc(more="\ncheck x is a 1"), abc(d="is a 0")), ("asks", (1, 0, 0), "d", None))

    def test_as_the_words_tell(self):
        kinds_told = {"asks": 0, "checks": 0, None: 0}
        for rng in seeded(150):
            one = random_form(rng)
            kinds = [kind for _, kind, _ in one.questions]
            other = random_form(rng, len(one), kinds) if rng.random() < 0.4 or not one.flat else changed(rng, one)
            told = parting_by_words(one, other)
            self.assertEqual(parting(one, other), told)
            kinds_told[told and told[0]] += 1
            back = parting(other, one)
            self.assertEqual(back, told[:2] + (told[3], told[2]) if told and told[0] == "asks" else told)
            if told is None:
                self.assertEqual(Group.lawful(one).table, Group.lawful(other).table)
        self.assertGreater(min(kinds_told.values()), 5)

    def test_long_forms(self):
        names = [first + second for first in "abcde" for second in "abcdefgh"]
        one = Form([ask(name, ("count", 0, 62)) for name in names])
        other = Form([ask(name, ("count", 0, 62)) for name in names] + [("check", "x", ("same", "aa", "eh"))])
        self.assertEqual(parting(one, other), ("checks", (0,) * 39 + (1,)))
        third = Form(one.flat[:-1] + (ask("eh", ("count", 0, 62), ("not", ("sum", ("aa", "eg"), 124, 124))),))
        self.assertEqual(parting(one, third), ("asks", (62,) + (0,) * 37 + (62,), "eh", None))

    def test_nothing_is_changed(self):
        one, other = abc(), abc("is a 1")
        before = copy.deepcopy((vars(one), vars(other)))
        parting(one, other)
        same_questions(one, other)
        self.assertEqual((vars(one), vars(other)), before)

    def test_needs_over_other_questions(self):
        rng = random.Random(3)
        items = [ask(name, ("pick", 3)) for name in "abcdef"]
        for _ in range(20):
            made = []
            for names in ("abc", "def"):
                needs = [random_condition(rng, dict.fromkeys(names, ("pick", 3))) for _ in range(6)]
                more = [ask("x" + name, ("pick", 2), need) for name, need in zip("abcdef", needs)]
                self.assertTrue(all(set(names_in(need)) <= set(names) for need in needs))
                made.append(Form(items + more))
            self.assertEqual(parting(*made), parting_by_words(*made))
        self.assertIsNone(parting(Form(items), Form(items + [("check", "x", ALWAYS)])))


if __name__ == "__main__":
    unittest.main()
