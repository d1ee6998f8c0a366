"""Promise k68, point [50]: editions of steps that are taken one after the other."""

import unittest

from slipleaf.editions import Edition
from slipleaf.errors import BadKind, BadStep, LeafError, TooMany, Unknown, Unlike
from slipleaf.forms import Form
from slipleaf.reading import read_form
from slipleaf.steps import stepped
from slipleaf.writing import write_form
from tests.helper import ALWAYS, ODD_THINGS, LeafCase, ask
from tests.oracle import seeded
from tests.step_oracle import easy_form, random_step, step_by_words

RENT = read_form("ask own pick 2\nask rent count 0 2 when is own 1")
STEPS = (("split", "own", 1, 2), ("rename", "rent", "cost"), ("add", 1, "kids", ("count", 0, 3), ALWAYS))


def random_edition(rng, form, many):
    """Return an edition of a form with so many random steps that can be taken."""
    edition = Edition(form)
    while many:
        step = random_step(rng, edition.new)
        if not isinstance(step_by_words(edition.new, step), LeafError):
            edition = edition.then(step)
            many -= 1
    return edition


class Editions(LeafCase):
    def test_no_steps(self):
        for edition in (Edition(RENT), Edition(RENT, []), Edition(RENT, steps=())):
            self.assertEqual((edition.old, edition.new, edition.steps, len(edition), list(edition)), (RENT, RENT, (), 0, []))

    def test_steps(self):
        edition = Edition(RENT, STEPS)
        self.assertEqual((edition.old, edition.steps, len(edition), tuple(edition)), (RENT, STEPS, 3, STEPS))
        self.assertEqual(write_form(edition.new), "ask own pick 3\nask kids count 0 3\nask cost count 0 2 when is own 1 2")
        self.assertIs(type(edition.steps), tuple)

    def test_random_steps(self):
        for rng in seeded(150):
            form = easy_form(rng)
            edition = random_edition(rng, form, rng.randint(0, 6))
            wanted = form
            for step in edition.steps:
                wanted = step_by_words(wanted, step)
            self.assertEqual((edition.old, edition.new), (form, wanted))
            self.assertEqual(Edition(form, list(edition.steps)).new, wanted)
            cut = rng.randint(0, len(edition))
            first = Edition(form, edition.steps[:cut])
            joined = first + Edition(first.new, edition.steps[cut:])
            self.assertEqual((joined, joined.new, joined.old, joined.steps), (edition, wanted, form, edition.steps))
            longer = joined.then(("check", "zz", ALWAYS))
            self.assertEqual(longer.new, stepped(wanted, ("check", "zz", ALWAYS)))
            self.assertEqual((len(longer), len(joined), len(first)), (len(edition) + 1, len(edition), cut))

    def test_equal(self):
        edition = Edition(RENT, STEPS)
        self.assertEqual(edition, Edition(RENT).then(STEPS[0]).then(STEPS[1]).then(STEPS[2]))
        self.assertEqual(edition, Edition(Form(RENT.flat), list(STEPS)))
        self.assertNotEqual(edition, Edition(RENT, STEPS[:2]))
        # The new forms are equal, but not the steps.
        there_and_back = (("rename", "own", "x"), ("rename", "x", "own"))
        self.assertNotEqual(Edition(RENT), Edition(RENT, there_and_back))
        self.assertEqual(Edition(RENT).new, Edition(RENT, there_and_back).new)
        self.assertNotEqual(Edition(RENT), Edition(Form([])))
        for thing in ODD_THINGS:
            if type(thing).__name__ != "Agreeing":
                self.assertIs(edition == thing, False)

    def test_lists_are_copied(self):
        steps = list(STEPS)
        edition = Edition(RENT, steps)
        steps.clear()
        self.assertEqual(edition.steps, STEPS)
        longer = edition.then(("drop", "kids"))
        self.assertEqual((len(edition), len(longer)), (3, 4))

    def test_joined_forms_need_only_be_equal(self):
        first = Edition(read_form("part always\nask a pick 2\nend"), [("rename", "a", "b")])
        second = Edition(read_form("ask b pick 2"), [("rename", "b", "c")])
        self.assertEqual((first + second).new, read_form("ask c pick 2"))
        self.assertEqual((first + second).then(("drop", "c")).new, Form([]))


class Errors(LeafCase):
    def test_bad_steps(self):
        for thing in ODD_THINGS + (["drop", "own"], ("drop",), ("move", ["own"])):
            self.assert_error(BadStep(0), Edition, RENT, [thing])
            self.assert_error(BadStep(2), Edition, RENT, [STEPS[0], STEPS[1], thing])
            self.assert_error(BadStep(3), Edition(RENT, STEPS).then, thing)
            self.assert_error(BadStep(0), Edition(RENT).then, thing)
            self.assert_error(BadStep(3), (Edition(RENT, STEPS[:1]) + Edition(stepped(RENT, STEPS[0]), STEPS[1:])).then, thing)

    def test_the_first_bad_step_counts(self):
        self.assert_error(Unknown("x"), Edition, RENT, [("drop", "x"), ("drop",)])
        self.assert_error(BadStep(0), Edition, RENT, [("drop",), ("drop", "x")])
        self.assert_error(Unknown("rent"), Edition, RENT, [STEPS[1], ("drop", "rent"), None])
        self.assert_error(BadKind(), Edition(RENT, STEPS).then, ("bound", "cost", 2, 1))
        full = Form([ask(first + second) for first in "ghij" for second in "ghijklmnop"])
        self.assert_error(TooMany("question"), Edition, full, [("add", 0, "a", ("pick", 2), ALWAYS)])

    def test_unlike(self):
        edition = Edition(RENT, STEPS)
        with self.assertRaises(Unlike):
            edition + edition
        with self.assertRaises(Unlike):
            edition + Edition(RENT)
        self.assertEqual(Edition(RENT) + edition, edition)
        self.assertEqual(edition + Edition(edition.new), edition)


if __name__ == "__main__":
    unittest.main()
