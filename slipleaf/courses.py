"""Courses: all lawful records of a form at once, with their slips on the sheets of one booklet.

Tolls tell the slips that each answer brings: for each row, from row 1 on, a tuple with a pair
`(arrow, price)` for each answer; just one pair if all are alike. The slips of a record are the sum
of the prices of its answers in its due rows.

A spot of a place is a pair `(node, number)`: how lawful walks go on from there (slipleaf/nodes.py),
and the row that asks next. Its sums are the sum of 2 ** s over all sums s of the prices from there
on to the end, so its lowest bit tells the fewest slips.
"""

from slipleaf.errors import NoRecord, TooMany
from slipleaf.flows import flow_of
from slipleaf.groups import Group
from slipleaf.kinds import answers_of
from slipleaf.nodes import MOST_RESTS, NOWHERE, evened, merged, numbered, packed


class Courses:
    """The courses of all lawful records through the rows of a booklet that leads right."""

    def __init__(self, form, tolls):
        layers, firsts = merged([flow_of(form.questions, form.checks)])
        if firsts[0] == NOWHERE:
            raise NoRecord()
        self.form = form
        self.tolls = tolls
        # For each row its different pairs, each once.
        self.different = [list({pair: True for pair in told}) for told in tolls]
        self.layers = layers
        self.start = (firsts[0], 1)
        self.sums = self._all_sums()

    def least_slips(self):
        """Return the fewest slips that a record has."""
        return _lowest(self.sums[0][self.start])

    def lone_record(self):
        """Return the one record with the fewest slips; None if there are several."""
        spot = self.start
        values = []
        for place, question in enumerate(self.form.questions):
            behind = self.sums[place + 1]
            least = _lowest(self.sums[place][spot])
            ways = self._ways_from(place, spot)
            best = [at for at, (onward, price) in enumerate(ways)
                    if onward in behind and _lowest(behind[onward]) + price == least]
            asked = self.layers[place][spot[0]][0]
            # Where answers are alike in all, several have what one of them has.
            if len(best) > 1 or (asked and len(ways) == 1):
                return None
            values.append(answers_of(question[1])[best[0]] if asked else None)
            spot = ways[best[0]][0]
        return tuple(values)

    def within(self, most):
        """Return the group of the records with at most so many slips."""
        layers, first = CourseGroup(self).joined(most)
        return Group(self.form, numbered(layers, first))

    def ways_at(self, place, spot):
        """Return whether a question is asked at a spot, and the pairs of the next spot and the price of its answers.

        There is just one pair if all answers have the same one. Spots behind which nothing is lawful
        have no sums.
        """
        return self.layers[place][spot[0]][0], self._ways_from(place, spot)

    def _ways_from(self, place, spot):
        """Return the pairs of the next spot and the price."""
        asked, leads = self.layers[place][spot[0]]
        if not asked:
            return [((leads[0], spot[1]), 0)]
        leads, tolls = evened(leads, self.tolls[spot[1] - 1])
        return [((lead, arrow), price) for lead, (arrow, price) in zip(leads, tolls)]

    def _different_ways(self, place, spot):
        """Return the pairs of the next spot and the price, mostly each once."""
        asked, leads = self.layers[place][spot[0]]
        if asked and len(leads) == 1:
            return [((leads[0], arrow), price) for arrow, price in self.different[spot[1] - 1]]
        return self._ways_from(place, spot)

    def _all_sums(self):
        """Return, for each place and the end, a dict from the spots that walks come to to their sums."""
        reached = [[self.start]]
        for place in range(len(self.form)):
            onward = {}
            for spot in reached[-1]:
                for further, _ in self._different_ways(place, spot):
                    if further[0] != NOWHERE:
                        onward[further] = True
            reached.append(list(onward))
        sums = [{spot: 1 for spot in reached[-1]}]
        for place in range(len(self.form) - 1, -1, -1):
            behind, told = sums[-1], {}
            for spot in reached[place]:
                total = 0
                for further, price in self._different_ways(place, spot):
                    total = total | (behind.get(further, 0) << price)
                told[spot] = total
            sums.append(told)
        return sums[::-1]


class CourseGroup:
    """Joins the rests of the group of the records with at most so many slips.

    A key of a place is a triple of a spot's node and row and the slips that may still come, which is
    such a sum of the spot: so different numbers of slips make different rests of one spot.
    """

    def __init__(self, courses):
        self.courses = courses
        self.known = [{} for _ in courses.layers]
        self.numbers = [{} for _ in courses.layers]
        # What _keys_behind tells of the keys that are to be made.
        self.behind = {}
        self.nodes_made = 0

    def joined(self, most):
        """Return the layers of the group and its first node."""
        first = self._key_at(0, self.courses.start, most)
        if first == ():
            return [[] for _ in self.numbers], NOWHERE
        stack = [(0, first)]
        while stack:
            place, key = stack[-1]
            if key in self.known[place]:
                stack.pop()
                continue
            if (place, key) not in self.behind:
                self.behind[(place, key)] = self._keys_behind(place, key)
            _, keys = self.behind[(place, key)]
            missing = [(place + 1, onward) for onward in keys if onward and onward not in self.known[place + 1]]
            if missing:
                stack.extend(missing)
            else:
                self._make(place, key)
        return [list(row) for row in self.numbers], self.known[0][first]

    def _key_at(self, place, spot, left):
        """Return the key of a spot when at most so many slips may come; an empty tuple if that is too few."""
        sums = self.courses.sums[place].get(spot, 0)
        fitting = sums & ((1 << max(left + 1, 0)) - 1)
        return (spot[0], spot[1], fitting.bit_length() - 1) if fitting else ()

    def _keys_behind(self, place, key):
        """Return whether a question is asked, and the key of the next place for each of its answers."""
        if place == len(self.courses.form):
            return False, []
        asked, ways = self.courses.ways_at(place, key[:2])
        told = {}
        for spot, price in ways:
            if (spot, price) not in told:
                told[(spot, price)] = self._key_at(place + 1, spot, key[2] - price)
        return asked, [told[way] for way in ways]

    def _make(self, place, key):
        """Make the node of a key; those behind it are there."""
        asked, keys = self.behind.pop((place, key))
        node = packed(asked, tuple([self.known[place + 1][onward] if onward else NOWHERE for onward in keys]))
        if node not in self.numbers[place]:
            self.numbers[place][node] = len(self.numbers[place])
            # Each key is reached by walks within the slips, so each node is a rest of the group.
            self.nodes_made += 1
            if self.nodes_made > MOST_RESTS:
                raise TooMany("rest")
        self.known[place][key] = self.numbers[place][node]


def _lowest(sums):
    """Return the place of the lowest bit."""
    return (sums & -sums).bit_length() - 1
