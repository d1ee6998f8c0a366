"""Crowds and strands, points [50] to [53]: sets of persons with what they pay, against going through all persons."""

import itertools
import unittest

from slipleaf.crowds import crowd_of
from slipleaf.strands import cut_at
from tests.oracle import seeded


def told_of(crowd, places):
    """Return a dict from all persons of a crowd to the least that each of them pays."""
    paid = {} if crowd.base is None else {((), crowd.outset): crowd.base}
    for place in range(places):
        onward = {}
        for (person, spot), total in paid.items():
            for further, toll, answers in crowd.ways_behind(place, spot):
                for answer in answers:
                    key = (person + (answer,), further)
                    onward[key] = min(total + toll, onward.get(key, total + toll))
        paid = onward
    least = {}
    for (person, _), total in paid.items():
        least[person] = min(total, least.get(person, total))
    return least


def changed(paid, change):
    """Return what persons pay when each of them becomes those that a function tells."""
    told = {}
    for person, total in paid.items():
        for other in change(person):
            told[other] = min(total, told.get(other, total))
    return told


class Changes:
    """A crowd beside a dict from all its persons to what they pay, changed alike."""

    def __init__(self, rng):
        self.rng = rng
        told = []
        for _ in range(rng.randint(1, 4)):
            answers = sorted(rng.sample(range(6), rng.randint(1, 4)))
            cut = rng.randint(1, len(answers))
            told.append([(0, tuple(answers[:cut]))] + [(rng.randint(1, 3), (answer,)) for answer in answers[cut:]])
        self.places = len(told)
        self.crowd = crowd_of(told)
        self.paid = {
            person: sum(toll for place, answer in enumerate(person) for toll, answers in told[place] if answer in answers)
            for person in itertools.product(*[[answer for _, answers in pairs for answer in answers] for pairs in told])
        }

    def one(self):
        """Change both in one way."""
        word = self.rng.choice(("without", "with_any", "turned", "paired", "paired", "divided", "divided", "moved", "moved"))
        getattr(self, word)(self.rng.randrange(self.places) if self.places else 0)

    def without(self, at):
        if self.places > 2:
            self.crowd = self.crowd.without(at)
            self.paid = changed(self.paid, lambda person: [person[:at] + person[at + 1:]])
            self.places -= 1

    def with_any(self, at):
        if self.places < 5 and len(self.paid) < 200:
            at = self.rng.randint(0, self.places)
            answers = tuple(sorted(self.rng.sample(range(4), 2)))
            self.crowd = self.crowd.with_any(at, answers)
            self.paid = changed(self.paid, lambda person: [person[:at] + (answer,) + person[at:] for answer in answers])
            self.places += 1

    def turned(self, at):
        becoming = {old: tuple(sorted(self.rng.sample(range(6), self.rng.choice((0, 1, 1, 1, 2))))) for old in range(9)}
        if len(self.paid) < 400 and self.places:
            self.crowd = self.crowd.turned_at(at, becoming)
            self.paid = changed(
                self.paid, lambda person: [person[:at] + (new,) + person[at + 1:] for new in becoming.get(person[at], ())],
            )

    def paired(self, at):
        if at + 1 < self.places:
            many = max([person[at + 1] for person in self.paid]) + 1
            self.crowd = self.crowd.paired(at, many)
            self.paid = changed(self.paid, lambda person: [person[:at] + (person[at] * many + person[at + 1],) + person[at + 2:]])
            self.places -= 1

    def divided(self, at):
        if 0 < self.places < 7:
            many = self.rng.choice((2, 3))
            self.crowd = self.crowd.divided(at, many)
            self.paid = changed(self.paid, lambda person: [person[:at] + divmod(person[at], many) + person[at + 1:]])
            self.places += 1

    def moved(self, _):
        order = self.rng.sample(range(self.places), self.places)
        self.crowd = self.crowd.moved(order)
        self.paid = changed(self.paid, lambda person: [tuple(person[place] for place in order)])


class Crowds(unittest.TestCase):
    def test_random_changes(self):
        long, empty = 0, 0
        for rng in seeded(2500):
            both = Changes(rng)
            for _ in range(rng.randint(1, 9)):
                both.one()
                self.assertEqual(told_of(both.crowd, both.places), both.paid)
                self.assertEqual(both.crowd.base, min(both.paid.values(), default=None))
                if not both.paid:
                    empty += 1
                    break
            self.assertEqual(both.crowd.persons() if both.paid else [], sorted(both.paid))
            long += max([len(places) for places, _ in both.crowd.strands], default=0) > 2
            for places, layers in both.crowd.strands:
                # No strand could be cut, and from each node on somebody pays nothing.
                self.assertEqual((cut_at(layers), sorted(places)), ([len(places)], list(places)))
                self.assertTrue(all(min(toll for _, toll, _ in node) == 0 for layer in layers for node in layer))
        self.assertGreater(long, 80)
        self.assertGreater(empty, 10)

    def test_places_are_each_in_one_strand(self):
        for rng in seeded(100):
            both = Changes(rng)
            for _ in range(5):
                both.one()
                if not both.paid:
                    break
                told = [place for places, _ in both.crowd.strands for place in places]
                self.assertEqual(sorted(told), list(range(both.places)))


if __name__ == "__main__":
    unittest.main()
