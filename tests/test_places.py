"""Promise k06, points [7], [9], [10]: what is live at a place, weights, flat sources, and equal forms."""

import random
import unittest

from slipleaf.conditions import names_in
from slipleaf.errors import LeafError
from slipleaf.forms import Form
from slipleaf.kinds import size_of
from slipleaf.reading import read_form
from slipleaf.writing import write_form, write_items
from tests.helper import ALWAYS, LeafCase, ask
from tests.oracle import random_form, seeded
from tests.texts import random_items

HOUSE = """ask kids count 0 2
check few from kids 0 1
ask own pick 3
each kids
  ask age count 0 2
  part is own 1 2
    ask work tick 2 when from age 1 2
    check work not has work 1
  end
  twice age years
end
check both sum age1 age2 to 0 3
ask last pick 2"""


def live_by_words(form, place):
    """Return the names that are live at a place, as the words of [9] tell it."""
    named = []
    for at, (_, _, need) in enumerate(form.questions):
        named += [name for name in names_in(need) if at >= place]
    for _, at, condition in form.checks:
        named += [name for name in names_in(condition) if at >= place]
    return tuple(name for name in form.names[:place] if name in named)


class Places(LeafCase):
    def test_as_the_words_tell(self):
        for rng in seeded(100):
            form = random_form(rng, rng.randint(0, 6))
            for place in range(len(form) + 1):
                live = live_by_words(form, place)
                weight = 1
                for name in live:
                    weight *= size_of(form.kind_of(name)) + 1
                self.assertEqual((form.live_at(place), form.weight_at(place)), (live, weight))

    def test_a_house(self):
        form = read_form(HOUSE)
        self.assertEqual(form.names, ("kids", "own", "age1", "work1", "years1", "age2", "work2", "years2", "last"))
        self.assertEqual([form.live_at(place) for place in range(10)], [
            (), ("kids",), ("kids", "own"), ("kids", "own", "age1"), ("kids", "own", "age1", "work1"),
            ("kids", "own", "age1", "years1"), ("kids", "own", "age1", "age2"),
            ("kids", "own", "age1", "age2", "work2"),
            ("kids", "age1", "age2", "years2"), (),
        ])
        weights = [form.weight_at(place) for place in range(10)]
        self.assertEqual(weights, [1, 4, 16, 64, 256, 256, 256, 1024, 256, 1])


class Flat(LeafCase):
    def test_makes_an_equal_form(self):
        for rng in seeded(60):
            form = random_form(rng)
            again = Form(form.flat)
            self.assertEqual((again, again.flat, again.source), (form, form.flat, form.flat))
            self.assertEqual(read_form(write_items(form.flat)), form)

    def test_of_parts_and_rounds(self):
        made = 0
        for seed in range(3000):
            try:
                form = Form(random_items(random.Random(seed)))
            except LeafError:
                continue
            made += len(form.source) > 0
            self.assertEqual(Form(form.flat), form)
            self.assertEqual(read_form(write_form(form)), form)
        self.assertGreater(made, 20)

    def test_equal_just_by_questions_and_checks(self):
        form = read_form("ask a pick 2\npart is a 1\nask b pick 2\nend\ncheck x asked b\ncheck y asked a")
        self.assertEqual(form, read_form("ask a pick 2\nask b pick 2 when is a 1\ncheck x asked b\ncheck y asked a"))
        for text in (
            "ask a pick 2\nask b pick 2 when is a 1\ncheck y asked a\ncheck x asked b",
            "ask a pick 2\nask b pick 2 when is a 1",
            "ask a pick 2\nask b pick 2 when is a 1\ncheck x asked b\ncheck y is a 0 1",
            "ask a pick 2\ncheck y asked a\nask b pick 2 when is a 1\ncheck x asked b",
            "ask a pick 2\nask b pick 3 when is a 1\ncheck x asked b\ncheck y asked a",
        ):
            self.assertNotEqual(form, read_form(text))
        self.assertNotEqual(Form((ask("a"), ask("b"))), Form((ask("b"), ask("a"))))
        self.assertNotEqual(Form((("check", "x", ALWAYS),)), Form((("check", "y", ALWAYS),)))


if __name__ == "__main__":
    unittest.main()
