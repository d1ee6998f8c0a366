"""Promises k03 and k07, points [4], [11], [12]: conditions and items as they are written."""

import copy
import random
import unittest

from slipleaf.errors import BadCondition, BadItem
from slipleaf.forms import Form
from slipleaf.reading import read_condition, read_form, read_items
from slipleaf.writing import write_condition, write_form, write_items
from tests.helper import ALWAYS, ODD_THINGS, LeafCase, ask, deep, nots
from tests.texts import random_items
from tests.test_conditions import CONDITIONS, NO_CONDITIONS

WHOLE = (
    ("check", "first", ALWAYS),
    ("ask", "own", ("pick", 6), ALWAYS),
    ("ask", "kids", ("count", 0, 2), ("is", "own", (0, 5))),
    ("part", ("asked", "kids"), (
        ("each", "kids", (
            ("ask", "age", ("count", 0, 99), ("or", ("from", "kids", 1, 2), ("not", ("asked", "own")))),
            ("part", ALWAYS, (("part", ("same", "age", "kids"), (("twice", "age", "years"),)),)),
            ("check", "old", ("not", ("from", "age", 17, 99))),
        )),
        ("part", ALWAYS, ()),
        ("each", "kids", ()),
        ("ask", "pets1", ("tick", 4), ("has", "pets", 3)),
    )),
    ("check", "sums5", ("sum", ("age1", "age2"), 0, 495)),
    ("twice", "own", "own"),
)
WHOLE_TEXT = """check first always
ask own pick 6
ask kids count 0 2 when is own 0 5
part asked kids
  each kids
    ask age count 0 99 when ( from kids 1 2 or not asked own )
    part always
      part same age kids
        twice age years
      end
    end
    check old not from age 17 99
  end
  part always
  end
  each kids
  end
  ask pets1 tick 4 when has pets 3
end
check sums5 sum age1 age2 to 0 495
twice own own"""


class Conditions(LeafCase):
    def test_each_is_written(self):
        for condition, text in CONDITIONS:
            with self.subTest(text):
                self.assertEqual(write_condition(condition), text)
                self.assertEqual(read_condition(text), condition)

    def test_example(self):
        condition = ("or", ("is", "heat", (0, 2)), ("not", ("asked", "heat")))
        self.assertEqual(write_condition(condition), "( is heat 0 2 or not asked heat )")

    def test_nested(self):
        condition = ("and", ("or", ALWAYS, ("not", ("and", ALWAYS, ("asked", "a"), ALWAYS))), ("not", ("not", ALWAYS)))
        text = "( ( always or not ( always and asked a and always ) ) and not not always )"
        self.assertEqual(write_condition(condition), text)
        self.assertEqual(read_condition(text), condition)

    def test_longest(self):
        text = "not " * 119 + "always"
        self.assertEqual(write_condition(nots(119)), text)
        self.assertEqual(read_condition(text), nots(119))

    def test_no_condition(self):
        for thing in (*NO_CONDITIONS, *ODD_THINGS, nots(120), deep(130)):
            with self.subTest(repr(thing)[:60]):
                self.assert_error(BadCondition(), write_condition, thing)

    def test_nothing_is_changed(self):
        for condition, _ in CONDITIONS:
            before = copy.deepcopy(condition)
            write_condition(condition)
            self.assertEqual(condition, before)


class Items(LeafCase):
    def test_example(self):
        items = (("part", ("asked", "own"), (("ask", "rent", ("count", 0, 9), ("not", ("is", "own", (0,)))),)),)
        text = "part asked own\n  ask rent count 0 9 when not is own 0\nend"
        self.assertEqual(write_items(items), text)
        self.assertEqual(write_items(list(items)), text)

    def test_whole(self):
        self.assertEqual(write_items(WHOLE), WHOLE_TEXT)
        self.assertEqual(read_items(WHOLE_TEXT), WHOLE)

    def test_no_items(self):
        self.assertEqual(write_items(()), "")
        self.assertEqual(write_items([]), "")
        self.assertEqual(write_form(Form(())), "")

    def test_when_is_left_out_for_always_alone(self):
        self.assertEqual(write_items((ask("a"),)), "ask a pick 2")
        items = (ask("a", ("tick", 2), ("not", ALWAYS)), ask("b", ("tick", 4), ("or", ALWAYS, ALWAYS)))
        self.assertEqual(write_items(items), "ask a tick 2 when not always\nask b tick 4 when ( always or always )")

    def test_what_8_tells_does_not_matter(self):
        items = (ask("a"), ask("a"), ("check", "c", ("asked", "z")), ("twice", "x", "x"), ("each", "a", (ask("b"),)))
        text = "ask a pick 2\nask a pick 2\ncheck c asked z\ntwice x x\neach a\n  ask b pick 2\nend"
        self.assertEqual(write_items(items), text)

    def test_bad_item(self):
        wrong = (["ask", "a", ("pick", 2), ALWAYS], ("end",), ("ask", "a", ("pick", 7), ALWAYS))
        for thing in (*ODD_THINGS, deep(130), *wrong):
            with self.subTest(repr(thing)[:60]):
                self.assert_error(BadItem(0), write_items, (thing,))
                self.assert_error(BadItem(1), write_items, [ask("a"), thing, thing])
                self.assert_error(BadItem(1), write_items, (ask("a"), ("part", ALWAYS, (ask("b"), thing)), thing))
        self.assert_error(BadItem(0), write_items, (("each", "a", (ask("b1"),)),))
        self.assert_error(BadItem(0), write_items, (("each", "a", (("each", "b", ()),)),))

    def test_written_and_read_again(self):
        for seed in range(300):
            items = random_items(random.Random(seed))
            text = write_items(items)
            self.assertEqual(read_items(text), items)
            self.assertEqual(write_items(read_items(text)), text)
            self.assertFalse(text.endswith("\n"))

    def test_nothing_is_changed(self):
        items = list(WHOLE)
        write_items(items)
        self.assertEqual(items, list(WHOLE))


class Forms(LeafCase):
    def test_source_is_written_and_not_the_flat_one(self):
        text = "ask kids count 0 2\neach kids\n  ask age count 0 9\nend\npart always\nend"
        form = read_form(text)
        self.assertEqual(write_form(form), text)
        self.assertEqual(write_items(form.flat), (
            "ask kids count 0 2\nask age1 count 0 9 when from kids 1 2\nask age2 count 0 9 when from kids 2 2"
        ))

    def test_read_again_it_is_equal(self):
        form = Form((
            ("check", "x", ALWAYS), ask("a", ("tick", 3)), ("part", ("has", "a", 2), (ask("b"), ("twice", "a", "c"))),
        ))
        again = read_form(write_form(form))
        self.assertEqual(again, form)
        self.assertEqual(again.source, form.source)
        self.assertEqual(read_form(write_items(form.flat)), form)


if __name__ == "__main__":
    unittest.main()
