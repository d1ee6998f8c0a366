"""Promise k14, points [13], [14], [20]: what is never and always asked, and which checks are needless."""

import copy
import unittest

from slipleaf.errors import Unknown
from slipleaf.forms import Form
from slipleaf.groups import Group
from slipleaf.reading import read_form
from slipleaf.reports import always_asked, first_asked, needless_checks, never_asked, shown_by
from tests.helper import ALWAYS, LeafCase, ask
from tests.oracle import all_records, failing, random_form, seeded

EMPTY = Form(())
HOUSE = read_form("""
ask own pick 3
ask rent count 3 5 when is own 1
ask none pick 2 when ( is own 0 and asked rent )
ask deep tick 2 when asked none
ask all pick 2 when ( asked rent or not asked rent )
ask last pick 2 when from rent 5 5
check known asked own
check paid not from rent 5 9
check paidb not is last 0 1
check rich ( is own 0 or is own 1 )
check lastb not is last 1
check alll is all 0
""")


class Asked(LeafCase):
    def test_never_and_always(self):
        self.assertEqual(never_asked(HOUSE), ("none", "deep"))
        self.assertEqual(always_asked(HOUSE), ("own", "all"))
        self.assertEqual((never_asked(EMPTY), always_asked(EMPTY)), ((), ()))
        form = read_form("ask a pick 2 when not always\nask b pick 2")
        self.assertEqual((never_asked(form), always_asked(form)), (("a",), ("b",)))

    def test_over_all_records_lawful_or_not(self):
        form = read_form("ask a pick 2\ncheck x is a 0\nask b pick 2 when is a 1\ncheck y not always")
        self.assertEqual((never_asked(form), always_asked(form), first_asked(form, "b")), ((), ("a",), (1, 0)))

    def test_first_asked(self):
        self.assertEqual(first_asked(HOUSE, "own"), (0, None, None, None, 0, None))
        self.assertEqual(first_asked(HOUSE, "rent"), (1, 3, None, None, 0, None))
        self.assertEqual(first_asked(HOUSE, "last"), (1, 5, None, None, 0, 0))
        self.assertIsNone(first_asked(HOUSE, "none"))
        self.assertIsNone(first_asked(HOUSE, "deep"))
        form = read_form("ask a tick 2\nask b count 7 9 when has a 1\nask c pick 2 when from b 8 9")
        self.assertEqual([first_asked(form, name) for name in "abc"], [(1, None, None), (2, 7, None), (2, 8, 0)])

    def test_unknown(self):
        for name in ("", "Own", "known", "rents"):
            self.assert_error(Unknown(name), first_asked, HOUSE, name)
        self.assert_error(Unknown("a"), first_asked, EMPTY, "a")


class Checks(LeafCase):
    def test_needless(self):
        self.assertEqual(needless_checks(HOUSE), ("known", "paid", "paidb", "lastb"))
        self.assertEqual(needless_checks(EMPTY), ())
        self.assertEqual(needless_checks(read_form("check a always\ncheck b not always\ncheck c always")), ("a", "c"))

    def test_two_that_say_the_same_are_both_needless(self):
        form = read_form("ask a pick 2\ncheck x is a 0\ncheck y not is a 1")
        self.assertEqual(needless_checks(form), ("x", "y"))
        self.assertEqual((shown_by(form, "x"), shown_by(form, "y")), (None, None))
        form = read_form("check x not always\ncheck y not always")
        self.assertEqual(needless_checks(form), ("x", "y"))

    def test_those_that_fail_together_show_nothing_behind_them(self):
        form = read_form("ask a pick 2\ncheck x is a 0\ncheck y is a 0\nask b pick 2\ncheck z ( is a 0 or is b 0 )")
        self.assertEqual(needless_checks(form), ("x", "y", "z"))
        form = read_form(
            "ask a pick 2\ncheck x is a 0\nask b pick 2\ncheck y is a 0\nask c pick 2\ncheck z ( is a 0 or is c 0 )"
        )
        self.assertEqual(needless_checks(form), ("x", "y", "z"))
        form = read_form("ask a pick 2\ncheck x is a 0\nask b pick 2\ncheck y ( is a 0 or is b 0 )")
        self.assertEqual((needless_checks(form), shown_by(form, "x")), (("y",), (1, 0)))

    def test_shown_by(self):
        self.assertEqual(shown_by(HOUSE, "rich"), (2, None, None, None, 0, None))
        self.assertEqual(shown_by(HOUSE, "alll"), (0, None, None, None, 1, None))
        for name in ("known", "paid", "paidb", "lastb"):
            self.assertIsNone(shown_by(HOUSE, name))
        self.assertEqual(shown_by(read_form("check x not always"), "x"), ())
        self.assertIsNone(shown_by(read_form("check x always"), "x"))

    def test_other_checks_hold_also_behind_it(self):
        form = read_form("ask a pick 3\ncheck x is a 0\nask b pick 2 when is a 1\ncheck y asked a\ncheck z not is b 0")
        self.assertEqual(shown_by(form, "x"), (1, 1))
        self.assertEqual(shown_by(form, "z"), None)
        self.assertEqual(needless_checks(form), ("y", "z"))

    def test_unknown(self):
        for name in ("", "own", "knowns", "Known"):
            self.assert_error(Unknown(name), shown_by, HOUSE, name)
        self.assert_error(Unknown("a"), shown_by, EMPTY, "a")

    def test_a_check_may_have_the_name_of_a_question(self):
        form = read_form("ask a pick 2\ntwice a b\ncheck a is a 0")
        self.assertEqual((shown_by(form, "b"), shown_by(form, "a")), ((0, 1), (1, 1)))


class ByWords(LeafCase):
    def test_as_the_words_tell(self):
        for rng in seeded(150):
            form = random_form(rng)
            records = all_records(form)
            asked = [[record[place] is not None for record in records] for place in range(len(form))]
            self.assertEqual(never_asked(form), tuple(name for name, told in zip(form.names, asked) if not any(told)))
            self.assertEqual(always_asked(form), tuple(name for name, told in zip(form.names, asked) if all(told)))
            for name, told in zip(form.names, asked):
                self.assertEqual(first_asked(form, name), records[told.index(True)] if any(told) else None)
            shown = {}
            for record in reversed(records):
                fails = failing(form, record)
                if len(fails) == 1:
                    shown[fails[0]] = record
            for name, _, _ in form.checks:
                self.assertEqual(shown_by(form, name), shown.get(name))
            self.assertEqual(needless_checks(form), tuple(name for name, _, _ in form.checks if name not in shown))

    def test_needless_checks_can_be_left_out(self):
        for rng in seeded(60):
            form = random_form(rng)
            for name, _, _ in form.checks:
                items = [item for item in form.flat if item[:2] != ("check", name)]
                same = Group.lawful(Form(items)).table == Group.lawful(form).table
                self.assertIs(name in needless_checks(form), same)

    def test_nothing_is_changed(self):
        before = copy.deepcopy(vars(HOUSE))
        for _ in range(2):
            self.assertEqual((never_asked(HOUSE), always_asked(HOUSE)), (("none", "deep"), ("own", "all")))
            self.assertEqual(first_asked(HOUSE, "rent"), (1, 3, None, None, 0, None))
            self.assertEqual(needless_checks(HOUSE), ("known", "paid", "paidb", "lastb"))
            self.assertEqual(shown_by(HOUSE, "rich"), (2, None, None, None, 0, None))
        Group.lawful(HOUSE)
        self.assertEqual(vars(HOUSE), before)

    def test_forms_with_very_many_records(self):
        names = [first + second for first in "abcde" for second in "abcdefgh"]
        items = [ask(name, ("count", 0, 62)) for name in names[:-1]]
        items += [ask("eh", ("pick", 2), ("sum", ("aa", "eg"), 124, 124))]
        items += [("check", "x", ("not", ("sum", ("aa", "eg"), 125, 495)))]
        items += [("check", "y", ("not", ("sum", ("aa",), 62, 62)))]
        form = Form(items)
        self.assertEqual((never_asked(form), always_asked(form)), ((), form.names[:-1]))
        self.assertEqual(first_asked(form, "eh"), (62,) + (0,) * 37 + (62, 0))
        self.assertEqual((needless_checks(form), shown_by(form, "x")), (("x",), None))
        self.assertEqual(shown_by(form, "y"), (62,) + (0,) * 38 + (None,))
        self.assertEqual(needless_checks(Form(form.flat[:-2] + (("check", "z", ALWAYS),))), ("z",))


if __name__ == "__main__":
    unittest.main()
