"""Promises k39 and k40, points [13], [14], [28], [30]: flaws and the longest wordings, over all records."""

import inspect
import random
import time
import unittest

from slipleaf.conditions import holds
from slipleaf.errors import NotAsked, Unknown
from slipleaf.forms import Form
from slipleaf.kinds import answers_of
from slipleaf.reading import read_form
from tests.helper import ALWAYS, LeafCase, ask
from tests.makers import random_texts, tongue_of
from tests.oracle import all_records, random_form, seeded, values_of

CHECKED = read_form(
    "ask a pick 2\nask b count 0 9 when is a 1\ncheck never is a 1\nask c pick 2\nask d count 3 12 when from b 0 3"
)


def wording_or_name(tongue, name, record):
    """Return the wording of a question and None, or None and the name at which it fails."""
    try:
        return tongue.wording(name, record), None
    except NotAsked as error:
        return None, error.name


def asking(form, name):
    """Return the records in which a question is asked, in order."""
    place = form.place_of(name)
    return [record for record in all_records(form) if record[place] is not None]


def flaws_by_words(tongue):
    """Return the flaws of a tongue, as the words of [30] tell them."""
    found = []
    for name in tongue.form.names:
        told = [(wording_or_name(tongue, name, record)[1], record) for record in asking(tongue.form, name)]
        failing = [(failed, record) for failed, record in told if failed is not None]
        found += [(name,) + failing[0]] if failing else []
    return found


def longest_by_words(tongue, name):
    """Return the pair of the most signs and the first record, or None."""
    found = None
    for record in asking(tongue.form, name):
        wording, failed = wording_or_name(tongue, name, record)
        if failed is None and (found is None or len(wording) > found[0]):
            found = (len(wording), record)
    return found


class Flaws(LeafCase):
    def test_examples(self):
        texts = {"a": (), "b": (("label", "a"),), "c": ("x", ("figures", "b")), "d": (("words", "b"), ("label", "c"))}
        tongue = tongue_of(CHECKED, texts=texts)
        # The record is not lawful, but it is looked at.
        self.assertEqual(list(tongue.flaws()), [("c", "b", (0, None, 0, None))])
        self.assertTrue(inspect.isgenerator(tongue.flaws()))
        guarded = {**texts, "c": (("if", ("asked", "b"), (("figures", "b"),), ("none",)),)}
        self.assertEqual(list(tongue_of(CHECKED, texts=guarded).flaws()), [])

    def test_as_the_words_tell(self):
        many = 0
        for rng in seeded(400):
            form = random_form(rng)
            tongue = tongue_of(form, texts=random_texts(rng, form))
            wanted = flaws_by_words(tongue)
            self.assertEqual(list(tongue.flaws()), wanted)
            many += len(wanted)
        self.assertGreater(many, 40)

    def test_never_asked(self):
        form = read_form("ask a count 0 9 when not always\nask b pick 2\nask c pick 2 when asked a")
        tongue = tongue_of(form, texts={"a": (), "b": (("figures", "a"),), "c": (("figures", "a"),)})
        self.assertEqual(list(tongue.flaws()), [("b", "a", (None, 0, None))])
        self.assertIsNone(tongue.longest("a"))
        self.assertIsNone(tongue.longest("b"))
        self.assertIsNone(tongue.longest("c"))


class Longest(LeafCase):
    def test_examples(self):
        texts = {"a": ("Is it?",), "b": (("label", "a"),), "c": (("if", ("asked", "b"), (("words", "b"),), ()),), "d": ()}
        tongue = tongue_of(CHECKED, texts=texts)
        self.assertEqual(tongue.longest("a"), (6, (0, None, 0, None)))
        self.assertEqual(tongue.longest("b"), (len("a no 1"), (1, 0, 0, 3)))
        # "three", "seven" and "eight" are as long; the first of them counts.
        self.assertEqual(tongue.longest("c"), (5, (1, 3, 0, 3)))
        self.assertEqual(tongue.longest("d"), (0, (1, 0, 0, 3)))
        for name in ("", "x", "never"):
            self.assert_error(Unknown(name), tongue.longest, name)

    def test_as_the_words_tell(self):
        missing = 0
        for rng in seeded(150):
            form = random_form(rng)
            tongue = tongue_of(form, texts=random_texts(rng, form))
            for name in form.names:
                wanted = longest_by_words(tongue, name)
                self.assertEqual(tongue.longest(name), wanted)
                missing += wanted is None
        self.assertGreater(missing, 3)


class ManyRecords(LeafCase):
    def timed(self, call, *args):
        """Return what a call gives, and fail if it takes too long."""
        begun = time.perf_counter()
        found = call(*args)
        self.assertLess(time.perf_counter() - begun, 10)
        return found

    def test_forty_questions(self):
        names = [first + second for first in "abcde" for second in "abcdefgh"]
        items, texts = [], {}
        for at, name in enumerate(names):
            ahead = names[max(0, at - 2):at]
            need = ("from", ahead[0], 3, 20) if len(ahead) == 2 else ALWAYS
            items.append(ask(name, ("count", 0, 14), need))
            texts[name] = tuple(("words", other) for other in ahead)
        form = Form(items)
        tongue = tongue_of(form, texts=texts)
        flaws = self.timed(lambda: list(tongue.flaws()))
        # From the fourth question on the one right ahead may not have been asked.
        self.assertEqual([(name, other) for name, other, _ in flaws], list(zip(names[3:], names[2:39])))
        self.assertEqual(flaws[0][2][:5], (0, 3, None, 0, None))
        most, record = self.timed(tongue.longest, "eh")
        self.assertEqual((most, record[-3:]), (len("thirteenthirteen"), (13, 13, 0)))
        self.assertEqual(len(tongue.wording("eh", record)), most)

    def test_the_greatest_weight(self):
        rng = random.Random(1)
        items = [ask(name, ("pick", 3), ("is", "abcdef"[at - 1], (1, 2)) if at else ALWAYS) for at, name in enumerate("abcdef")]
        names = [first + second for first in "xyz" for second in "abcdefghij"]
        texts = {name: () for name in "abcdef"}
        for name in names:
            need = ("or",) + tuple(("is", rng.choice("abcdef"), (rng.randrange(3),)) for _ in range(6))
            items.append(ask(name, ("count", 0, 99), need))
            texts[name] = tuple(("if", need, (("label", rng.choice("abcdef")),), ("x",)) for _ in range(6))
        form = Form(items)
        tongue = tongue_of(form, texts=texts)
        flaws = self.timed(lambda: list(tongue.flaws()))
        for name, other, record in flaws:
            self.assertEqual(wording_or_name(tongue, name, record), (None, other))
            # No record with a smaller answer to the last of the picks that were asked is a flaw.
            values = values_of(form, record)
            self.assertTrue(all(answers_of(kind)[0] == values[one] or values[one] is None
                                for one, kind, _ in form.questions[6:]))
            self.assertTrue(holds(form.need_of(name), values))
        self.assertGreater(len(flaws), 10)
        for name in names[::7]:
            most, record = self.timed(tongue.longest, name)
            self.assertEqual(len(tongue.wording(name, record)), most)


if __name__ == "__main__":
    unittest.main()
