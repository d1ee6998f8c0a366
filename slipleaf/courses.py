"""Courses: all lawful records of a form at once, with their slips on the papers of one household.

Tolls tell the slips that each answer brings: for each row, from row 1 on, a tuple with a pair
`(arrow, price)` for each answer; just one pair if all are alike. The slips of a record are the sum
of the prices of its answers in its due rows, of the prices of the questions that it passes, and of
what each record costs (slipleaf/prices.py).

A spot of a place is a pair `(node, number)`: how lawful walks go on from there (slipleaf/nodes.py),
and the row that asks next. Its sums are a pair: the lowest sum of the prices from there on to the
end, and the sum of 2 ** s over all sums that are s above it, as far as they can matter.
"""

from slipleaf.errors import NoRecord
from slipleaf.groups import Group
from slipleaf.kinds import answers_of
from slipleaf.nodes import NOWHERE, evened, numbered
from slipleaf.weaves import Weave

MOST_EXTRA = 1000

class Courses:
    """The courses of all lawful records of an issue through the rows of its booklet."""

    def __init__(self, issue, prices):
        layers, first = issue.lawful_layers
        if first == NOWHERE:
            raise NoRecord()
        self.form = issue.form
        self.entry = prices.entry
        self.passed = prices.passed
        self.tolls = prices.tolls_of(issue.booklet)
        # For each row its different pairs, each once.
        self.different = [list({pair: True for pair in told}) for told in self.tolls]
        self.layers = layers
        self.start = (first, 1)
        self.sums = self._all_sums()

    def least_slips(self):
        """Return the fewest slips that a record has."""
        return self.sums[0][self.start][0] + self.entry

    def lone_record(self):
        """Return the one record with the fewest slips; None if there are several."""
        spot = self.start
        values = []
        for place, question in enumerate(self.form.questions):
            behind = self.sums[place + 1]
            least = self.sums[place][spot][0]
            ways = self._ways_from(place, spot)
            best = [at for at, (onward, price) in enumerate(ways)
                    if onward in behind and behind[onward][0] + price == least]
            asked = self.layers[place][spot[0]][0]
            # Where answers are alike in all, several have what one of them has.
            if len(best) > 1 or (asked and len(ways) == 1):
                return None
            values.append(answers_of(question[1])[best[0]] if asked else None)
            spot = ways[best[0]][0]
        return tuple(values)

    def within(self, extra):
        """Return the group of the records with at most so many slips more than the fewest."""
        weave = CourseGroup(self)
        layers, first = weave.layers_from(weave.key_at(0, self.start, self.sums[0][self.start][0] + extra))
        return Group(self.form, numbered(layers, first))

    def first_within(self, extra, most):
        """Return the first records with at most so many slips more than the fewest, so many if there are more."""
        found = []
        ahead = [((), self.start, self.sums[0][self.start][0] + extra)]
        while ahead and len(found) < most:
            values, spot, left = ahead.pop()
            place = len(values)
            if place == len(self.form):
                found.append(values)
                continue
            asked, ways = self.ways_at(place, spot)
            answers = answers_of(self.form.questions[place][1]) if asked else (None,)
            behind = self.sums[place + 1]
            onward = []
            for value, (further, price) in zip(answers, evened(ways, answers)[0]):
                if further in behind and behind[further][0] + price <= left:
                    onward.append((values + (value,), further, left - price))
            # The last one of these is the next one that is looked at.
            ahead.extend(onward[::-1])
        return found

    def ways_at(self, place, spot):
        """Return whether a question is asked at a spot, and the pairs of the next spot and the price of its answers.

        There is just one pair if all answers have the same one. Spots behind which nothing is lawful
        have no sums.
        """
        return self.layers[place][spot[0]][0], self._ways_from(place, spot)

    def _ways_from(self, place, spot):
        """Return the pairs of the next spot and the price."""
        asked, leads = self.layers[place][spot[0]]
        if not asked:
            return [((leads[0], spot[1]), self.passed[place])]
        leads, tolls = evened(leads, self.tolls[spot[1] - 1])
        return [((lead, arrow), price) for lead, (arrow, price) in zip(leads, tolls)]

    def _different_ways(self, place, spot):
        """Return the pairs of the next spot and the price, mostly each once."""
        asked, leads = self.layers[place][spot[0]]
        if asked and len(leads) == 1:
            return [((leads[0], arrow), price) for arrow, price in self.different[spot[1] - 1]]
        return self._ways_from(place, spot)

    def _all_sums(self):
        """Return, for each place and the end, a dict from the spots that walks come to to their sums."""
        reached = [[self.start]]
        for place in range(len(self.form)):
            onward = {}
            for spot in reached[-1]:
                for further, _ in self._different_ways(place, spot):
                    if further[0] != NOWHERE:
                        onward[further] = True
            reached.append(list(onward))
        sums = [{spot: (0, 1) for spot in reached[-1]}]
        for place in range(len(self.form) - 1, -1, -1):
            behind = sums[-1]
            told = {}
            for spot in reached[place]:
                found = []
                for further, price in self._different_ways(place, spot):
                    if further in behind:
                        low, bits = behind[further]
                        found.append((low + price, bits))
                if found:
                    told[spot] = _joined_sums(found)
            sums.append(told)
        return sums[::-1]


class CourseGroup(Weave):
    """Makes the group of the records with at most so many slips.

    A key of a place is a triple of a spot's node and row and the slips that may still come, which is
    such a sum of the spot: so different numbers of slips make different rests of one spot.
    """

    def __init__(self, courses):
        super().__init__(len(courses.layers))
        self.courses = courses

    def key_at(self, place, spot, left):
        """Return the key of a spot when at most so many slips may come; an empty tuple if that is too few."""
        if spot not in self.courses.sums[place]:
            return ()
        low, bits = self.courses.sums[place][spot]
        if left < low:
            return ()
        fitting = bits & ((1 << (left - low + 1)) - 1)
        return (spot[0], spot[1], low + fitting.bit_length() - 1)

    def keys_behind(self, place, key):
        """Return whether a question is asked, and the key of the next place for each of its answers."""
        if place == len(self.courses.form):
            return False, []
        asked, ways = self.courses.ways_at(place, key[:2])
        told = {}
        for spot, price in ways:
            if (spot, price) not in told:
                told[(spot, price)] = self.key_at(place + 1, spot, key[2] - price)
        return asked, [told[way] for way in ways]


def _joined_sums(found):
    """Return the sums that several such pairs have together.

    From a spot that some record comes to, sums that are further above the lowest one than slips
    more can be told for are of no use.
    """
    least = min([low for low, _ in found])
    total = 0
    for low, bits in found:
        if low - least <= MOST_EXTRA:
            total = total | (bits << (low - least))
    return (least, total & ((1 << (MOST_EXTRA + 1)) - 1))
