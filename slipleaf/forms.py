"""Forms: questions and checks in order, within the limits of what may stand at a time.

The functions flat_source, last_uses, live_names, weight_of and fits_standing look at
questions and checks that are no form yet; they are for the other files too.
"""

from slipleaf.bounds import is_within
from slipleaf.conditions import all_names
from slipleaf.errors import BadNumber, TooMany, Unknown
from slipleaf.kinds import size_of
from slipleaf.rounds import unrolled

MOST_QUESTIONS = 40
MOST_CHECKS = 20
MOST_WEIGHT = 4096


class Form:
    """The questions and checks to which a tuple of items unrolls."""

    def __init__(self, items):
        questions, checks = unrolled(items)
        if len(questions) > MOST_QUESTIONS:
            raise TooMany("question")
        if len(checks) > MOST_CHECKS:
            raise TooMany("check")
        if not fits_standing(questions, checks):
            raise TooMany("standing")
        self.source = tuple(items)
        self.questions = questions
        self.checks = checks
        self.names = tuple([question[0] for question in questions])

    @property
    def flat(self):
        """The flat source: all questions and checks as items of their own."""
        return flat_source(self.questions, self.checks)

    def place_of(self, name):
        """Return the number of a question among the questions, from 0."""
        if name not in self.names:
            raise Unknown(name)
        return self.names.index(name)

    def kind_of(self, name):
        """Return the kind of a question."""
        return self.questions[self.place_of(name)][1]

    def need_of(self, name):
        """Return the need of a question."""
        return self.questions[self.place_of(name)][2]

    def live_at(self, place):
        """Return the names of the questions that are live at a place, in order."""
        self.check_place(place)
        return live_names(self.questions, last_uses(self.questions, self.checks), place)

    def weight_at(self, place):
        """Return the weight of a place."""
        self.check_place(place)
        return weight_of(self.questions, last_uses(self.questions, self.checks), place)

    def check_place(self, place):
        """Raise BadNumber if this is no place of the form; the end is one."""
        if not is_within(place, 0, len(self.names)):
            raise BadNumber(place)

    def __len__(self):
        return len(self.names)

    def __contains__(self, name):
        return name in self.names

    def __iter__(self):
        return iter(self.names)

    def __eq__(self, other):
        return isinstance(other, Form) and self.questions == other.questions and self.checks == other.checks


def flat_source(questions, checks):
    """Return questions and checks as items, each check ahead of the question at its place."""
    items = []
    for place in range(len(questions) + 1):
        items.extend([("check", name, condition) for name, at, condition in checks if at == place])
        if place < len(questions):
            items.append(("ask",) + questions[place])
    return tuple(items)


def last_uses(questions, checks):
    """Return a dict from each name that a need or check has to the greatest place of these."""
    last = {}
    for place, question in enumerate(questions):
        for name in all_names(question[2]):
            last[name] = place
    for _, place, condition in checks:
        for name in all_names(condition):
            last[name] = max(place, last.get(name, 0))
    return last


def live_names(questions, last, place):
    """Return the names of the questions that are live at a place; last is that of last_uses."""
    return tuple([question[0] for question in _live(questions, last, place)])


def weight_of(questions, last, place):
    """Return the weight of a place; last is that of last_uses."""
    weight = 1
    for question in _live(questions, last, place):
        weight = weight * (size_of(question[1]) + 1)
    return weight


def fits_standing(questions, checks):
    """Tell whether no place has more weight than a form may have."""
    last = last_uses(questions, checks)
    return all([weight_of(questions, last, place) <= MOST_WEIGHT for place in range(len(questions) + 1)])


def _live(questions, last, place):
    """Return the questions ahead of a place that are named there or behind it."""
    # A question that nothing names counts as last used at 0, where nothing is live.
    return [question for question in questions[:place] if place <= last.get(question[0], 0)]
