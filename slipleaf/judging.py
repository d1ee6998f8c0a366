"""Judging: whether a booklet leads all persons right, and where it first leads one wrong.

A spot is a pair `(place, node)`: the place of the question that the walk asks next and the node of
the walk there (slipleaf/nodes.py); the end of the walk has the place behind the last question.

A crowd is a set of persons who were led right so far and have come to one number of a booklet with
one spot: a tuple `(number, spot, marks, least)`. A mark `(position, place, mask)` tells of one of
the questions that they have answered how manyth it was, its place, and the sum of 2 ** a over the
answers a that some of them gave; whichever of these answers are taken, somebody gave just those.
There are marks where a row may still look at a question; least has the least answers to all.
"""

from slipleaf.flows import flow_of
from slipleaf.kinds import answers_of
from slipleaf.nodes import evened, merged


def fault(booklet):
    """Return None if a booklet leads right, otherwise the answers and the number where it first does not."""
    return Judge(booklet).first_fault()


class Judge:
    """Goes through a booklet with all persons at once."""

    def __init__(self, booklet):
        self.form = booklet.form
        self.rows = booklet.rows
        self.final = booklet.end
        self.places = [self.form.place_of(row[1]) for row in self.rows]
        self.answers = [answers_of(question[1]) for question in self.form.questions]
        self.layers, firsts = merged([flow_of(self.form.questions, ())])
        self.outset = self._next_asked(0, firsts[0])
        self.ways = self._all_ways()
        self.watched = self._all_watched()

    def first_fault(self):
        """Return the fault of the booklet, or None."""
        crowds = self._watched_ones([(1, self.outset, (), ())])
        # The crowds of fewer answers: those who go on like them are led wrong later than they are.
        past = {}
        while crowds:
            wrong, asking = self._at_rows(crowds)
            if wrong is not None:
                return wrong
            fresh = [crowd for crowd in asking if _likeness(crowd) not in past]
            crowds = []
            for crowd in fresh:
                past[_likeness(crowd)] = True
                crowds.extend(self._watched_ones(self._answered(crowd)))
        return None

    def _at_rows(self, crowds):
        """Return the first fault of crowds with equally many answers, or None, and those that come to rows that ask.

        Crowds are gone on with in the order of their answers, so the first fault found is the first one.
        """
        queue = sorted([_entry_of(crowd) for crowd in crowds], reverse=True)
        seen = {}
        asking = []
        while queue:
            least, back, spot, marks = queue.pop()
            # Of alike crowds the first one is the best one, whatever becomes of the marks.
            if (back, spot, marks) not in seen:
                seen[(back, spot, marks)] = True
                crowd = (-back, spot, marks, least)
                if self._is_wrong(-back, spot):
                    return (least, -back), []
                if not self._looks(-back):
                    asking.append(crowd)
                else:
                    for parted in self._watched_ones(self._looked(crowd)):
                        _put_in(queue, _entry_of(parted))
        return None, asking

    def _watched_ones(self, crowds):
        """Return those crowds that may be led wrong, with the marks for which it matters."""
        found = []
        for number, spot, marks, least in crowds:
            if spot in self.watched[number]:
                bits = self.watched[number][spot]
                kept = tuple([mark for mark in marks if (bits >> mark[1]) & 1 == 1])
                found.append((number, spot, kept, least))
        return found

    def _next_asked(self, place, node):
        """Return the spot at which the next question is asked, or that of the end of the walk."""
        while place < len(self.form) and not self.layers[place][node][0]:
            node = self.layers[place][node][1][0]
            place += 1
        return (place, node)

    def _looks(self, number):
        """Tell whether the row of a number looks; the end does not."""
        return number < self.final and self.rows[number - 1][0] == "look"

    def _is_wrong(self, number, spot):
        """Tell whether a row that asks, or the end, is wrong for a walk at a spot."""
        if self._looks(number):
            return False
        if number == self.final or spot[0] == len(self.form):
            return number < self.final or spot[0] < len(self.form)
        return self.places[number - 1] != spot[0]

    def _all_ways(self):
        """Return, for each number, a dict from the spots with which persons may come there to their ways on.

        A way is a triple of the next number, the spot there, and the mask of the answers that lead
        so (0 if nothing is asked). Here a row that looks may lead anybody wherever it leads somebody.
        """
        ways = [{} for _ in range(self.final + 1)]
        ways[1][self.outset] = ()
        for number in range(1, self.final):
            for spot in list(ways[number]):
                ways[number][spot] = self._ways_on(number, spot)
                for target, onward, _ in ways[number][spot]:
                    ways[target].setdefault(onward, ())
        return ways

    def _ways_on(self, number, spot):
        """Return the ways from a row; none if it is wrong."""
        row = self.rows[number - 1]
        if self._looks(number):
            # A question that the walk has not come to was not answered.
            targets = row[3] + (row[2],) if self.places[number - 1] < spot[0] else (row[2],)
            return [(target, spot, 0) for target in sorted(set(targets))]
        if self._is_wrong(number, spot):
            return []
        place, node = spot
        leads, arrows = evened(self.layers[place][node][1], row[2])
        masks = {}
        for answer, lead, arrow in zip(self.answers[place], leads, arrows):
            masks[(arrow, lead)] = masks.get((arrow, lead), 0) | (1 << answer)
        return [(arrow, self._next_asked(place + 1, lead), mask) for (arrow, lead), mask in masks.items()]

    def _all_watched(self):
        """Return, for each number, a dict from the spots from which somebody may be led wrong to what is watched.

        Watched is the sum of 2 ** p over the places p of the questions of which it may matter there
        what was answered.
        """
        watched = [{} for _ in range(self.final + 1)]
        for number in range(self.final, 0, -1):
            for spot, ways in self.ways[number].items():
                found = [watched[target][onward] for target, onward, _ in ways if onward in watched[target]]
                if found and self._looks(number) and len(ways) > 1:
                    found.append(1 << self.places[number - 1])
                if found or self._is_wrong(number, spot):
                    watched[number][spot] = _all_bits(found)
        return watched

    def _looked(self, crowd):
        """Return the crowds to which a row that looks parts a crowd."""
        number, spot, marks, least = crowd
        _, _, other, arrows = self.rows[number - 1]
        place = self.places[number - 1]
        at = [mark[1] for mark in marks].index(place) if place in [mark[1] for mark in marks] else -1
        if at < 0:
            return [(other, spot, marks, least)]
        position, _, mask = marks[at]
        masks = {}
        for answer, arrow in zip(self.answers[place], arrows):
            if (mask >> answer) & 1 == 1:
                masks[arrow] = masks.get(arrow, 0) | (1 << answer)
        return [
            (arrow, spot, _with(marks, at, (position, place, part)), _with(least, position, _lowest(part)))
            for arrow, part in masks.items()
        ]

    def _answered(self, crowd):
        """Return the crowds to which the answers at a row that asks part a crowd."""
        number, spot, marks, least = crowd
        return [
            (target, onward, marks + ((len(least), spot[0], mask),), least + (_lowest(mask),))
            for target, onward, mask in self.ways[number][spot]
        ]


def _entry_of(crowd):
    """Return a crowd as it stands in order: by its answers, and of equal ones the one that has come farther first."""
    number, spot, marks, least = crowd
    return (least, -number, spot, marks)


def _put_in(queue, entry):
    """Put an entry where it belongs in a list that descends."""
    low, high = 0, len(queue)
    while low < high:
        middle = (low + high) // 2
        if queue[middle] > entry:
            low = middle + 1
        else:
            high = middle
    queue.insert(low, entry)


def _likeness(crowd):
    """Return what is alike for crowds of which the same persons are led wrong."""
    return (crowd[0], crowd[1], tuple([mark[1:] for mark in crowd[2]]))


def _with(told, at, thing):
    """Return a tuple with one element exchanged."""
    return told[:at] + (thing,) + told[at + 1:]


def _lowest(mask):
    """Return the least answer of a mask."""
    return (mask & -mask).bit_length() - 1


def _all_bits(numbers):
    """Return all bits of some numbers."""
    total = 0
    for number in numbers:
        total = total | number
    return total
