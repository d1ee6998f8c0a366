"""Follow-ups: a form gone through where the records of a group do not agree."""

from slipleaf.errors import Ended, NoRecord, Stray
from slipleaf.groups import Group
from slipleaf.kinds import answers_of, is_answer
from slipleaf.nodes import NOWHERE, numbered


class FollowUp:
    """A way to one of the records of a group, asking only where those that are left differ."""

    def __init__(self, group):
        if not group:
            raise NoRecord()
        self.form = group.form
        self._group = group
        # The values so far, and the rests of the group ahead of each of them and behind the last one.
        self._filled = []
        self._passed = [0]
        # The places of the questions that were answered.
        self._asked_at = []
        self._fill()

    @property
    def due(self):
        """The name of the question that is due, or None if one record is left."""
        place = len(self._filled)
        return self.form.names[place] if place < len(self.form) else None

    @property
    def given(self):
        """The pairs of a name and a value that were answered so far, in order."""
        return tuple([(self.form.names[place], self._filled[place]) for place in self._asked_at])

    def answer(self, value):
        """Give the due question its value, and fill in what then is settled."""
        due = self.due
        if due is None:
            raise Ended()
        leads = [lead for told, lead in self._moves() if told == value]
        if not is_answer(self.form.kind_of(due), value) or not leads:
            raise Stray(due)
        self._asked_at.append(len(self._filled))
        self._go(value, leads[0])
        self._fill()

    def back(self):
        """Take the last answer away, so that its question is due again."""
        if not self._asked_at:
            raise Ended()
        place = self._asked_at.pop()
        self._filled = self._filled[:place]
        self._passed = self._passed[:place + 1]

    def found(self):
        """Return the record that is left, or None while a question is due."""
        return tuple(self._filled) if self.due is None else None

    def left(self):
        """Return the group of the records that are still possible."""
        layers = [list(layer) for layer in self._group.nodes]
        number = self._passed[-1]
        for place in range(len(self._filled) - 1, -1, -1):
            asked, _ = layers[place][self._passed[place]]
            answers = answers_of(self.form.questions[place][1]) if asked else (None,)
            layers[place].append((asked, tuple([
                number if answer == self._filled[place] else NOWHERE for answer in answers
            ])))
            number = len(layers[place]) - 1
        return Group(self.form, numbered(layers, number))

    def _moves(self):
        """Return the values that can follow, with the rests to which they lead."""
        return self._group.table[len(self._filled)][self._passed[-1]]

    def _go(self, value, lead):
        """Go on with a value to a rest of the next place."""
        self._filled.append(value)
        self._passed.append(lead)

    def _fill(self):
        """Fill in what all records that are left agree on."""
        while self.due is not None and len(self._moves()) == 1:
            value, lead = self._moves()[0]
            self._go(value, lead)
