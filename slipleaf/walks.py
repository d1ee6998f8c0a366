"""Walks: a form gone through question by question, forwards and back."""

from slipleaf.conditions import truth
from slipleaf.errors import BadAnswer, Ended
from slipleaf.kinds import is_answer


class Walk:
    """A walk through a form that is under way."""

    def __init__(self, form):
        self.form = form
        self._values = []
        self._go_on()

    @property
    def due(self):
        """The name of the question that is asked now, or None if no more is asked."""
        place = len(self._values)
        return self.form.names[place] if place < len(self.form) else None

    @property
    def given(self):
        """The pairs of a name and an answer so far, in order."""
        return tuple([(name, value) for name, value in zip(self.form.names, self._values) if value is not None])

    @property
    def so_far(self):
        """The values of all questions ahead of the due one, or of all."""
        return tuple(self._values)

    def answer(self, value):
        """Give the due question its value, and go on to the next due one."""
        due = self.due
        if due is None:
            raise Ended()
        if not is_answer(self.form.kind_of(due), value):
            raise BadAnswer(due)
        self._values.append(value)
        self._go_on()

    def back(self):
        """Take the last given answer away, so that its question is due again."""
        if not self.given:
            raise Ended()
        while self._values[-1] is None:
            self._values.pop()
        self._values.pop()

    def failing(self):
        """Return the names of the checks that fail, of all up to the place of the walk."""
        values = dict(zip(self.form.names, self._values))
        checks = [check for check in self.form.checks if check[1] <= len(self._values)]
        return tuple([name for name, _, condition in checks if not truth(condition, values)])

    def copy(self):
        """Return a walk of its own at the same place."""
        walk = Walk(self.form)
        walk._values = list(self._values)
        return walk

    def __eq__(self, other):
        return isinstance(other, Walk) and self.form == other.form and self.given == other.given

    def _go_on(self):
        """Go on over all questions that are not asked now."""
        values = dict(zip(self.form.names, self._values))
        for _, _, need in self.form.questions[len(self._values):]:
            if truth(need, values):
                return
            # A name that is missing has the value None, so values can stay as they are.
            self._values.append(None)
