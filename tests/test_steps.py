"""Promises k65 to k67 and k92, points [8], [10], [13], [18], [20], [24], [50], [51]: steps and links."""

import inspect
import itertools
import unittest

from slipleaf.conditions import length_of
from slipleaf.errors import (
    BadAnswer, BadCondition, BadKind, BadName, BadNumber, BadOrder, BadPerson, BadStep, BadUse, LeafError, Needed,
    TooLong, TooMany, Twice, Unknown,
)
from slipleaf.forms import Form
from slipleaf.groups import Group
from slipleaf.orders import ordered
from slipleaf.reading import read_form
from slipleaf.reports import needless_checks
from slipleaf.steps import linked, stepped
from slipleaf.writing import write_form
from tests.helper import ALWAYS, ODD_THINGS, LeafCase, ask
from tests.oracle import random_form, seeded
from tests.paper_oracle import all_persons
from tests.step_oracle import STEP_WORDS, easy_form, linked_by_words, random_step, step_by_words

HOUSE = read_form("""
ask own pick 3
check sure not is own 2
ask rent count 0 9 when is own 1 2
ask heat tick 3
check low ( not asked rent or from rent 1 9 )
ask fuel pick 3 when has heat 0
ask week pick 2 when has heat 0
twice rent again
check total sum rent again to 0 12
""")


def text_of(form):
    """Return the flat source of a form as a text."""
    return write_form(Form(form.flat))


class ByHand(LeafCase):
    def becomes(self, text, step, wanted):
        """Fail unless a step leads from one text to another."""
        form = read_form(text)
        before = form.flat
        made = stepped(form, step)
        self.assertEqual(text_of(made), wanted)
        self.assertEqual((made.source, form.flat), (made.flat, before))

    def test_rename(self):
        self.becomes(
            "ask a count 0 2\nask b count 0 2 when from a 1 2\ncheck a same a b\ncheck c sum a b to 0 3",
            ("rename", "a", "x1"),
            "ask x1 count 0 2\nask b count 0 2 when from x1 1 2\ncheck a same x1 b\ncheck c sum x1 b to 0 3",
        )

    def test_move(self):
        self.becomes(
            "ask a pick 2\ncheck d is a 0\nask b pick 2\ncheck c same a b\nask e pick 2 when is a 1\ncheck f always",
            ("move", ("b", "a", "e")),
            "check f always\nask b pick 2\nask a pick 2\ncheck d is a 0\ncheck c same a b\nask e pick 2 when is a 1",
        )
        form = read_form("ask a pick 2\nask b pick 2\ncheck c same a b")
        self.assertEqual(stepped(form, ("move", ("b", "a"))), ordered(form, ["b", "a"]))
        # Also where the order stays, a check goes as far ahead as it can.
        self.becomes("ask a pick 2\ncheck c always", ("move", ("a",)), "check c always\nask a pick 2")

    def test_drop(self):
        self.becomes(
            "ask a pick 2\ncheck c is a 0\nask b pick 2\ncheck b is a 1\nask d pick 2\ncheck e is d 1", ("drop", "b"),
            "ask a pick 2\ncheck c is a 0\ncheck b is a 1\nask d pick 2\ncheck e is d 1",
        )

    def test_add(self):
        text = "ask a pick 2\ncheck c is a 0\ncheck d is a 0\nask b pick 2\ncheck e is b 0"
        self.becomes(
            text, ("add", 1, "n", ("count", 0, 99), ("is", "a", (1,))),
            "ask a pick 2\ncheck c is a 0\ncheck d is a 0\nask n count 0 99 when is a 1\nask b pick 2\ncheck e is b 0",
        )
        self.becomes(text, ("add", 0, "n", ("tick", 2), ALWAYS), "ask n tick 2\n" + text)
        self.becomes(text, ("add", 2, "c", ("tick", 2), ("same", "a", "b")), text + "\nask c tick 2 when same a b")

    def test_split_and_join(self):
        text = "ask a pick 4\nask b pick 2 when ( is a 0 1 or not is a 3 )\ncheck c is a 1"
        parted = "ask a pick 6\nask b pick 2 when ( is a 0 1 2 3 or not is a 5 )\ncheck c is a 1 2 3"
        self.becomes(text, ("split", "a", 1, 3), parted)
        self.becomes(parted, ("join", "a", 1, 3), text)
        self.becomes("ask a pick 3\ncheck c is a 1 2", ("join", "a", 1, 2), "ask a pick 2\ncheck c is a 1")
        self.becomes("ask a pick 2\ncheck c is a 1", ("split", "a", 0, 2), "ask a pick 3\ncheck c is a 2")

    def test_bound_and_need(self):
        self.becomes("ask a count 0 5\ncheck c from a 0 5", ("bound", "a", 98, 99), "ask a count 98 99\ncheck c from a 0 5")
        self.becomes("ask a pick 2\nask b pick 2 when is a 0", ("need", "b", ALWAYS), "ask a pick 2\nask b pick 2")
        self.becomes("ask a pick 2\nask b pick 2", ("need", "b", ("asked", "a")), "ask a pick 2\nask b pick 2 when asked a")

    def test_pair_and_divide(self):
        text = (
            "ask z pick 2\nask a pick 2 when is z 1\nask b pick 3 when is z 1\ncheck c ( is a 1 or is b 0 2 )\n"
            "ask d pick 2 when ( asked a and asked b )"
        )
        paired = (
            "ask z pick 2\nask {0} pick 6 when is z 1\ncheck c ( is {0} 3 4 5 or is {0} 0 2 3 5 )\n"
            "ask d pick 2 when ( asked {0} and asked {0} )"
        )
        for name in ("a", "b", "s5"):
            self.becomes(text, ("pair", "a", "b", name), paired.format(name))
        text = "ask z pick 2\ncheck e always\nask {} pick 6 when is z 1\ncheck c asked {}\nask d pick 2 when not asked {}"
        parted = (
            "ask z pick 2\ncheck e always\nask {0} pick {1} when is z 1\nask {2} pick {3} when is z 1\ncheck c asked {0}\n"
            "ask d pick 2 when not asked {0}"
        )
        for first, second in (("a", "b"), ("s", "b"), ("a", "s")):
            for many in (2, 3):
                step = ("divide", "s", first, second, many)
                self.becomes(text.format("s", "s", "s"), step, parted.format(first, 6 // many, second, many))

    def test_check_and_uncheck(self):
        self.becomes("ask a pick 2\ncheck c asked a", ("check", "a", ALWAYS), "ask a pick 2\ncheck c asked a\ncheck a always")
        self.becomes("check a always\nask a pick 2\ncheck c always", ("uncheck", "a"), "ask a pick 2\ncheck c always")

    def test_parts_and_rounds_are_flat(self):
        made = stepped(read_form("ask k count 0 2\neach k\nask a pick 2\nend\npart is a1 0\nask b pick 2\nend"), ("drop", "b"))
        self.assertEqual(
            write_form(made), "ask k count 0 2\nask a1 pick 2 when from k 1 2\nask a2 pick 2 when from k 2 2",
        )


class ByTheWords(LeafCase):
    def outcome(self, form, step):
        """Return the form that comes out of a step, or its error."""
        try:
            return stepped(form, step)
        except LeafError as error:
            return error

    def test_random_steps(self):
        fine = dict.fromkeys(STEP_WORDS, 0)
        wrong = {}
        for rng in seeded(5000):
            form = rng.choice((random_form, easy_form, easy_form))(rng)
            word = rng.choice(STEP_WORDS)
            step = random_step(rng, form, word)
            flat, made, wanted = form.flat, self.outcome(form, step), step_by_words(form, step)
            self.assertEqual(form.flat, flat)
            if isinstance(wanted, LeafError):
                self.assertEqual((type(made), vars(made)), (type(wanted), vars(wanted)), (write_form(form), step))
                wrong[(word, type(wanted).__name__)] = True
            else:
                self.assertEqual((made.questions, made.checks), (wanted.questions, wanted.checks), (write_form(form), step))
                self.assertEqual(made.source, made.flat)
                fine[word] += 1
        self.assertGreater(min(fine.values()), 20, fine)
        self.assertGreater(len(wrong), 20, wrong)

    def test_random_links(self):
        seen = dict.fromkeys(STEP_WORDS, 0)
        for rng in seeded(2500):
            form = easy_form(rng, rng.randint(0, 4))
            step = random_step(rng, form)
            if isinstance(step_by_words(form, step), LeafError):
                continue
            for person in rng.sample(all_persons(form), min(3, len(all_persons(form)))):
                self.assertEqual(list(linked(form, step, person)), linked_by_words(form, step, person))
                seen[step[0]] += 1
        self.assertGreater(min(seen.values()), 20, seen)


class Errors(LeafCase):
    def test_bad_steps(self):
        for thing in ODD_THINGS + (
            ["drop", "own"], ("drop",), ("drop", "own", 1), ("drop", 1), ("drop", ("own",)), ("Drop", "own"), ("ask", "own"),
            ("rename", "own"), ("rename", "own", 1), ("rename", None, "a"), ("move", ["own"]), ("move", "own"), ("move", (1,)),
            ("move",), ("move", "own", "rent"), ("add", "0", "a", ("pick", 2), ALWAYS), ("add", True, "a", ("pick", 2), ALWAYS),
            ("add", 0, 1, ("pick", 2), ALWAYS), ("add", 0, "a", ("pick", 2)), ("split", "own", True, 2), ("split", "own", 0, "2"),
            ("split", 0, 0, 2), ("join", "own", 0, None), ("join", "own", False, True), ("bound", "rent", 0, 9.0),
            ("bound", "rent", None, 9), ("need", "own"), ("need", 1, ALWAYS), ("pair", "fuel", "week", 1), ("pair", "fuel", "week"),
            ("divide", "own", "a", "b", "2"), ("divide", "own", "a", "b", True), ("divide", "own", "a", 2), ("check", 1, ALWAYS),
            ("check", "a"), ("uncheck", None), ("uncheck", "a", ALWAYS), ("uncheck", ["low"]), (),
        ):
            self.assert_error(BadStep(0), stepped, HOUSE, thing)
            self.assert_error(BadStep(0), list, linked(HOUSE, thing, ()))

    def fails(self, form, step, error):
        """Fail unless a step raises this error, for persons too."""
        self.assert_error(error, stepped, form, step)
        self.assert_error(error, list, linked(form, step, ()))

    def test_rename_and_move(self):
        self.fails(HOUSE, ("rename", "x", "Bad"), Unknown("x"))
        for name in ("", "abcdefghi", "a6", "a0", "A", "ask", "a11", "1"):
            self.fails(HOUSE, ("rename", "own", name), BadName(name))
        self.fails(HOUSE, ("rename", "own", "rent"), Twice("rent"))
        self.fails(HOUSE, ("rename", "own", "own"), Twice("own"))
        names = HOUSE.names
        self.fails(HOUSE, ("move", names[:-1]), BadOrder("again"))
        self.fails(HOUSE, ("move", names + ("own",)), BadOrder("own"))
        self.fails(HOUSE, ("move", ("rent",) + names), BadOrder("rent"))
        self.fails(HOUSE, ("move", ("x",) + names), BadOrder("x"))
        self.fails(HOUSE, ("move", ()), BadOrder("own"))

    def test_drop_and_add(self):
        self.fails(HOUSE, ("drop", "x"), Unknown("x"))
        for name in ("own", "rent", "heat", "again"):
            self.fails(HOUSE, ("drop", name), Needed(name))
        bad, kind, many = ("is", "own", ()), ("pick", 2), len(HOUSE)
        self.fails(HOUSE, ("add", -1, "Bad", None, None), BadNumber(-1))
        self.fails(HOUSE, ("add", many + 1, "Bad", None, None), BadNumber(many + 1))
        self.fails(HOUSE, ("add", many, "Bad", None, None), BadName("Bad"))
        for thing in (None, ["pick", 2], ("pick", 7), ("count", 3, 3)):
            self.fails(HOUSE, ("add", 0, "own", thing, bad), BadKind())
        for thing in (None, ["always"], bad, ("not", bad)):
            self.fails(HOUSE, ("add", 0, "own", kind, thing), BadCondition())
        self.fails(HOUSE, ("add", 0, "own", kind, ("asked", "own")), Unknown("own"))
        self.fails(HOUSE, ("add", 1, "own", kind, ("is", "own", (3,))), BadUse("own"))
        self.fails(HOUSE, ("add", 1, "own", kind, ("asked", "own")), Twice("own"))

    def test_split_and_join(self):
        for word in ("split", "join"):
            self.fails(HOUSE, (word, "x", -1, -1), Unknown("x"))
            self.fails(HOUSE, (word, "heat", -1, -1), BadUse("heat"))
            self.fails(HOUSE, (word, "rent", -1, -1), BadUse("rent"))
        self.fails(HOUSE, ("split", "own", -1, 0), BadAnswer("own"))
        self.fails(HOUSE, ("split", "own", 3, 0), BadAnswer("own"))
        for parts in (-1, 0, 1, 5, 6, 10 ** 29):
            self.fails(HOUSE, ("split", "own", 2, parts), BadNumber(parts))
        self.assertEqual(stepped(HOUSE, ("split", "own", 2, 4)).kind_of("own"), ("pick", 6))
        for first, last in ((-1, 0), (0, 0), (1, 0), (0, 3), (0, 2), (2, 3)):
            self.fails(HOUSE, ("join", "own", first, last), BadAnswer("own"))
        self.fails(HOUSE, ("join", "own", 0, 1), Needed("own"))
        self.fails(HOUSE, ("join", "own", 1, 2), Needed("own"))
        pair = read_form("ask a pick 6\nask b pick 6\ncheck c ( always or not same a b )\ncheck d is a 1")
        self.fails(pair, ("split", "a", 1, 1), BadNumber(1))
        pair = read_form("ask a pick 3\nask b pick 3\ncheck c ( always or not same a b )\ncheck d is a 1")
        for name in "ab":
            self.fails(pair, ("split", name, 0, 2), Needed(name))
            self.fails(pair, ("join", name, 0, 1), Needed(name))

    def test_bound_and_need(self):
        self.fails(HOUSE, ("bound", "x", 9, 0), Unknown("x"))
        self.fails(HOUSE, ("bound", "own", 9, 0), BadUse("own"))
        for low, high in ((-1, 5), (5, 5), (6, 5), (0, 100), (99, 100)):
            self.fails(HOUSE, ("bound", "rent", low, high), BadKind())
        self.fails(HOUSE, ("bound", "rent", 0, 9), Needed("rent"))
        self.fails(HOUSE, ("bound", "again", 0, 9), Needed("again"))
        self.fails(HOUSE, ("need", "x", None), Unknown("x"))
        self.fails(HOUSE, ("need", "rent", None), BadCondition())
        self.fails(HOUSE, ("need", "rent", ("asked", "rent")), Unknown("rent"))
        self.fails(HOUSE, ("need", "rent", ("asked", "heat")), Unknown("heat"))
        self.fails(HOUSE, ("need", "fuel", ("has", "heat", 3)), BadUse("heat"))

    def test_pair(self):
        self.fails(HOUSE, ("pair", "x", "y", "Bad"), Unknown("x"))
        self.fails(HOUSE, ("pair", "rent", "y", "Bad"), Unknown("y"))
        self.fails(HOUSE, ("pair", "rent", "heat", "Bad"), BadUse("rent"))
        self.fails(HOUSE, ("pair", "fuel", "heat", "Bad"), BadUse("heat"))
        for first, second in (("week", "fuel"), ("fuel", "fuel"), ("own", "fuel"), ("own", "week")):
            self.fails(HOUSE, ("pair", first, second, "Bad"), BadUse(second))
        self.fails(HOUSE, ("pair", "fuel", "week", "Bad"), BadName("Bad"))
        self.fails(HOUSE, ("pair", "fuel", "week", "own"), Twice("own"))
        for text in (
            "ask a pick 2\nask b pick 4", "ask a pick 3\nask b pick 3",
            "ask a pick 2\ncheck c always\nask b pick 2", "ask a pick 2\nask b pick 2 when asked a",
            "ask z pick 2\nask a pick 2 when asked z\nask b pick 2", "ask a pick 2\nask z pick 2\nask b pick 2",
        ):
            self.fails(read_form(text), ("pair", "a", "b", "s"), BadUse("b"))
        for kind in ("tick 2", "count 2 3", "count 0 1"):
            form = read_form(f"ask a pick 2\nask b {kind}\nask c pick 2")
            self.fails(form, ("pair", "a", "b", "Bad"), BadUse("b"))
            self.fails(form, ("pair", "b", "c", "Bad"), BadUse("b"))
        for text in ("same a b", "not same a z", "( always and same z b )"):
            form = read_form(f"ask z pick 2\nask a pick 2\nask b pick 2\ncheck c {text}")
            self.fails(form, ("pair", "a", "b", "z"), Twice("z"))
            self.fails(form, ("pair", "a", "b", "a"), Needed("a"))

    def test_divide(self):
        form = read_form("ask s pick 6\nask z pick 4\ncheck c asked s\ncheck d is z 0")
        self.fails(form, ("divide", "x", "Bad", "Bad", 1), Unknown("x"))
        self.fails(HOUSE, ("divide", "rent", "Bad", "Bad", 1), BadUse("rent"))
        for many in (-2, 0, 1, 4, 6, 10 ** 29):
            self.fails(form, ("divide", "s", "Bad", "Bad", many), BadNumber(many))
        self.fails(form, ("divide", "z", "Bad", "Bad", 3), BadNumber(3))
        for kind in (2, 3, 5):
            for many in (2, 3):
                self.fails(read_form(f"ask s pick {kind}"), ("divide", "s", "Bad", "Bad", many), BadNumber(many))
        self.fails(form, ("divide", "s", "Bad", "Worse", 2), BadName("Bad"))
        self.fails(form, ("divide", "s", "z", "Worse", 2), BadName("Worse"))
        self.fails(form, ("divide", "s", "z", "z", 2), Twice("z"))
        self.fails(form, ("divide", "s", "a", "z", 2), Twice("z"))
        self.fails(form, ("divide", "s", "a", "a", 2), Twice("a"))
        self.fails(form, ("divide", "s", "s", "s", 2), Twice("s"))
        self.fails(form, ("divide", "z", "a", "z", 2), Needed("z"))
        for text in ("is s 1", "( asked s and not same s z )", "not same z s"):
            other = read_form(f"ask s pick 4\nask z pick 4\ncheck c {text}")
            self.fails(other, ("divide", "s", "a", "b", 2), Needed("s"))

    def test_checks(self):
        self.fails(HOUSE, ("check", "Bad", None), BadName("Bad"))
        self.fails(HOUSE, ("check", "low", None), BadCondition())
        self.fails(HOUSE, ("check", "low", ("asked", "x")), Unknown("x"))
        self.fails(HOUSE, ("check", "low", ("has", "own", 0)), BadUse("own"))
        self.fails(HOUSE, ("check", "low", ALWAYS), Twice("low"))
        self.fails(HOUSE, ("check", "again", ALWAYS), Twice("again"))
        self.fails(HOUSE, ("uncheck", "own"), Unknown("own"))
        self.assertEqual(len(stepped(HOUSE, ("check", "own", ALWAYS)).checks), len(HOUSE.checks) + 1)


class TooMuch(LeafCase):
    def test_120_words(self):
        # 19 times `is a 1`, each of which grows by one word when its answer is split in two.
        def form_with(extra):
            is_one = ("is", "a", (1,))
            level = ("or",) + (is_one,) * 6
            condition = ("or", level, level, level, is_one)
            for _ in range(extra):
                condition = ("not", condition)
            return Form([ask("a"), ask("b"), ("check", "d", ALWAYS), ("check", "c", condition), ask("e", condition=condition)])
        many = length_of(form_with(0).checks[1][2])
        self.assertEqual(many, 5 + 3 * 7 + 19 * 3)
        for extra, error in ((18, None), (19, TooLong("c")), (120 - many, TooLong("c"))):
            form = form_with(extra)
            if error is None:
                self.assertEqual(length_of(stepped(form, ("split", "a", 1, 2)).checks[1][2]), 120)
            else:
                self.assert_error(error, stepped, form, ("split", "a", 1, 2))
                self.assert_error(error, list, linked(form, ("split", "a", 1, 2), ()))
                # The need of e is longer too, but it stands behind.
                self.assert_error(TooLong("e"), stepped, stepped(form, ("uncheck", "c")), ("split", "a", 1, 2))
        # Nothing is too long where no answer becomes more.
        self.assertEqual(stepped(form, ("split", "a", 0, 2)).kind_of("a"), ("pick", 3))
        self.assertEqual(length_of(stepped(form, ("rename", "a", "abcdefgh")).checks[1][2]), 120)
        self.assert_error(TooLong("c"), stepped, form, ("pair", "a", "b", "a"))

    def test_questions_and_checks(self):
        names = [first + second for first in "ghij" for second in "ghijklmnop"]
        full = Form([ask(name) for name in names[:39]] + [ask("a", ("pick", 4))])
        self.assert_error(TooMany("question"), stepped, full, ("add", 0, "b", ("pick", 2), ALWAYS))
        self.assert_error(TooMany("question"), stepped, full, ("divide", "a", "a", "b", 2))
        self.assertEqual(len(stepped(stepped(full, ("drop", "gg")), ("add", 3, "b", ("pick", 2), ALWAYS))), 40)
        checked = Form([("check", name, ALWAYS) for name in names[:20]])
        self.assert_error(TooMany("check"), stepped, checked, ("check", "a", ALWAYS))
        self.assertEqual(len(stepped(stepped(checked, ("uncheck", "gg")), ("check", "gg", ALWAYS)).checks), 20)

    def test_standing(self):
        both = "ask a count 0 62\nask b count 0 62\n"
        summed = "check d sum a b to 0 9\n"
        form = read_form(both + "ask c pick 2\n" + summed)
        self.assertEqual((form.weight_at(2), form.weight_at(3)), (4096, 4096))
        self.assertEqual(stepped(form, ("bound", "a", 37, 99)).weight_at(2), 4096)
        self.assertEqual(stepped(form, ("need", "c", ("asked", "a"))).weight_at(2), 4096)
        for step in (
            ("bound", "a", 0, 63), ("bound", "b", 36, 99), ("check", "e", ("asked", "c")),
            ("add", 3, "e", ("pick", 2), ("asked", "c")),
        ):
            self.assert_error(TooMany("standing"), stepped, form, step)
            self.assert_error(TooMany("standing"), list, linked(form, step, ()))
        form = read_form(both + summed + "ask g count 0 62\ncheck h asked g\nask c pick 2")
        self.assert_error(TooMany("standing"), stepped, form, ("need", "c", ("sum", ("a", "b"), 0, 9)))
        form = read_form("ask c pick 2\nask f pick 2 when asked c\n" + both + summed)
        self.assert_error(TooMany("standing"), stepped, form, ("move", ("c", "a", "b", "f")))
        self.assertEqual(stepped(form, ("move", ("a", "c", "f", "b"))).weight_at(4), 4096)
        form = read_form("ask a count 0 34\nask b count 0 34\nask c pick 2\ncheck d ( sum a b to 0 9 or is c 0 )")
        self.assert_error(TooMany("standing"), stepped, form, ("split", "c", 0, 2))
        self.assertEqual(form.weight_at(3), 36 * 36 * 3)

    def test_too_long_goes_ahead_of_standing(self):
        long = ("or",) + (("or",) + (("is", "c", (0,)),) * 6,) * 4
        form = Form([
            ask("a", ("count", 0, 34)), ask("b", ("count", 0, 34)), ask("c"),
            ("check", "d", ("sum", ("a", "b"), 0, 9)), ("check", "e", long),
        ])
        self.assertEqual(length_of(long), 5 + 4 * (7 + 18))
        self.assert_error(TooLong("e"), stepped, form, ("split", "c", 0, 2))
        self.assert_error(TooMany("standing"), stepped, form, ("bound", "b", 0, 99))


class Links(LeafCase):
    def test_generator(self):
        self.assertTrue(inspect.isgeneratorfunction(linked))
        # Nothing is done ahead of the first person.
        told = linked(None, None, None)
        with self.assertRaises(LeafError):
            next(told)

    def test_bad_persons(self):
        form = read_form("ask a pick 2\nask b count 1 3 when is a 1")
        for thing in [thing for thing in ODD_THINGS if type(thing) is not tuple] + [[0, 1], (0,), (0, 1, 1), ()]:
            self.assert_error(BadPerson(-1), list, linked(form, ("drop", "b"), thing))
        self.assert_error(BadPerson(0), list, linked(form, ("drop", "b"), (2, 0)))
        self.assert_error(BadPerson(1), list, linked(form, ("drop", "b"), (0, 0)))
        self.assert_error(BadPerson(1), list, linked(form, ("drop", "b"), (0, None)))
        self.assert_error(Unknown("c"), list, linked(form, ("drop", "c"), (0, None)))

    def test_by_hand(self):
        form = read_form("ask a pick 3\nask b count 1 3 when is a 1\nask c pick 2")
        for step, wanted in (
            (("rename", "a", "x"), [(1, 2, 0)]), (("move", ("c", "a", "b")), [(0, 1, 2)]), (("drop", "b"), [(1, 0)]),
            (("add", 1, "x", ("tick", 2), ALWAYS), [(1, 1, 2, 0), (1, 2, 2, 0), (1, 3, 2, 0)]),
            (("split", "a", 1, 3), [(1, 2, 0), (2, 2, 0), (3, 2, 0)]), (("split", "a", 0, 2), [(2, 2, 0)]),
            (("split", "c", 0, 2), [(1, 2, 0), (1, 2, 1)]), (("bound", "b", 2, 99), [(1, 2, 0)]), (("bound", "b", 3, 4), []),
            (("need", "b", ALWAYS), [(1, 2, 0)]), (("check", "x", ("not", ALWAYS)), [(1, 2, 0)]),
        ):
            self.assertEqual(list(linked(form, step, (1, 2, 0))), wanted)
        form = read_form("ask a pick 3\nask b pick 2\nask c pick 6")
        self.assertEqual(list(linked(form, ("pair", "a", "b", "s"), (2, 0, 5))), [(4, 5)])
        self.assertEqual(list(linked(form, ("divide", "c", "q", "r", 2), (2, 0, 5))), [(2, 0, 2, 1)])
        self.assertEqual(list(linked(form, ("divide", "c", "q", "r", 3), (2, 0, 5))), [(2, 0, 1, 2)])
        self.assertEqual(list(linked(form, ("join", "c", 1, 3), (2, 0, 5))), [(2, 0, 3)])
        self.assertEqual(list(linked(form, ("join", "c", 2, 5), (2, 0, 5))), [(2, 0, 2)])
        self.assertEqual(list(linked(Form([]), ("add", 0, "a", ("pick", 2), ALWAYS), ())), [(0,), (1,)])
        self.assertEqual(list(linked(read_form("ask a pick 2"), ("drop", "a"), (1,))), [()])

    def test_forty_questions(self):
        names = [first + second for first in "ghij" for second in "ghijklmnop"]
        form = Form([ask(name, ("count", 0, 99)) for name in names])
        person = tuple(range(40))
        self.assertEqual(list(linked(form, ("move", tuple(names[::-1])), person)), [person[::-1]])
        self.assertEqual(list(linked(form, ("drop", "gh"), person)), [(0,) + person[2:]])
        less = stepped(form, ("drop", "gh"))
        told = list(linked(less, ("add", 20, "a", ("count", 0, 99), ALWAYS), person[:39]))
        self.assertEqual(told, [person[:20] + (answer,) + person[20:39] for answer in range(100)])


class NeedlessChecks(LeafCase):
    def test_striking_them_one_after_another(self):
        struck = 0
        for rng in seeded(120):
            form = random_form(rng, rng.randint(1, 4))
            items = list(form.flat)
            # Some checks that are needless beside others.
            items += [("check", "x" + item[1], item[-1]) for item in items if item[0] == "check"]
            form = Form(items + [("check", "y", ALWAYS)])
            lawful = Group.lawful(form)
            while needless_checks(form):
                form = stepped(form, ("uncheck", rng.choice(needless_checks(form))))
                self.assertEqual(list(Group.lawful(form).records()), list(lawful.records()))
                self.assertEqual(Group.lawful(form).table, lawful.table)
                struck += 1
        self.assertGreater(struck, 120)

    def test_two_alike(self):
        form = read_form("ask a pick 2\ncheck c is a 0\ncheck d is a 0")
        self.assertEqual(needless_checks(form), ("c", "d"))
        for first, second in itertools.permutations("cd"):
            less = stepped(form, ("uncheck", first))
            self.assertEqual((needless_checks(less), list(Group.lawful(less).records())), ((), [(0,)]))


if __name__ == "__main__":
    unittest.main()
