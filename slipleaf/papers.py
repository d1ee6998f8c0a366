"""Papers: what comes back from a household, as sheets, letters and notes of calls.

The method claims of each paper is for the other files (slipleaf/prices.py tells what claims are).
"""

from slipleaf.arrows import due_rows
from slipleaf.bounds import is_within
from slipleaf.errors import BadPaper, BadRecord
from slipleaf.kinds import all_slips, answers_of, is_answer, is_content, size_of
from slipleaf.records import is_record
from slipleaf.slips import SlipCounter

# The content of a letter that says: this does not concern me.
NO_CONCERN = -3
MOST_WEIGHT = 9


class Paper:
    """What all papers have: their form, and a key of plain values that tells what they were made of."""

    def __init__(self, form, key):
        self.form = form
        self.key = key


class Sheet(Paper):
    """A sheet of an issue."""

    def __init__(self, issue, contents):
        issue.check_sheet(contents)
        super().__init__(issue.form, ("sheet", contents))
        self.issue = issue
        self.counter = SlipCounter(issue, contents)

    def slips(self, record):
        """Return the slips of a record on this sheet."""
        _demand_record(self.form, record)
        return self.counter.slips_of(due_rows(self.issue.booklet, record), record)

    def claims(self):
        """Return no claims: the slips depend on the rows that are due."""
        return []

    def __eq__(self, other):
        return isinstance(other, Sheet) and self.issue == other.issue and self.key == other.key


class Letter(Paper):
    """Contents for some questions."""

    def __init__(self, form, names, contents):
        if not is_letter(form, names, contents):
            raise BadPaper()
        super().__init__(form, ("letter", tuple(names), tuple(contents)))

    def slips(self, record):
        """Return the slips of a record on this letter."""
        _demand_record(self.form, record)
        return _claimed_slips(self.form, self.claims(), record)

    def claims(self):
        """Return a claim for each of the names."""
        _, names, contents = self.key
        return [_claim_of(self.form, name, content) for name, content in zip(names, contents)]

    def __eq__(self, other):
        return isinstance(other, Letter) and self.form == other.form and self.key == other.key


class Note(Paper):
    """One value that was told in a call."""

    def __init__(self, form, name, value, weight=2):
        if not is_note(form, name, value) or not is_within(weight, 1, MOST_WEIGHT):
            raise BadPaper()
        super().__init__(form, ("note", name, value, weight))

    def slips(self, record):
        """Return the slips of a record on this note."""
        _demand_record(self.form, record)
        return _claimed_slips(self.form, self.claims(), record)

    def claims(self):
        """Return the one claim of a note."""
        _, name, value, weight = self.key
        answers = answers_of(self.form.kind_of(name))
        told = tuple([0 if answer == value else weight for answer in answers])
        return [(self.form.place_of(name), 0 if value is None else weight, told)]

    def __eq__(self, other):
        return isinstance(other, Note) and self.form == other.form and self.key == other.key


def is_letter(form, names, contents):
    """Tell whether a letter may have these names and contents, which may be lists or tuples."""
    if not isinstance(names, (list, tuple)) or not isinstance(contents, (list, tuple)):
        return False
    if len(names) != len(contents) or not all([isinstance(name, str) and name in form for name in names]):
        return False
    places = [form.place_of(name) for name in names]
    if not all([place < onward for place, onward in zip(places, places[1:])]):
        return False
    return all([
        is_within(content, NO_CONCERN, NO_CONCERN) or is_content(form.kind_of(name), content)
        for name, content in zip(names, contents)
    ])


def is_note(form, name, value):
    """Tell whether a note may have this name and this value."""
    if not isinstance(name, str) or name not in form:
        return False
    return value is None or is_answer(form.kind_of(name), value)


def _claim_of(form, name, content):
    """Return the claim of a content in a letter."""
    kind = form.kind_of(name)
    if content == NO_CONCERN:
        return (form.place_of(name), 0, (1,) * size_of(kind))
    return (form.place_of(name), 1, all_slips(kind, content))


def _claimed_slips(form, claims, record):
    """Return the slips of a record by claims."""
    total = 0
    for place, nothing, told in claims:
        value = record[place]
        total = total + (nothing if value is None else told[value - answers_of(form.questions[place][1])[0]])
    return total


def _demand_record(form, record):
    """Raise BadRecord if this is no record of the form."""
    if not is_record(form, record):
        raise BadRecord(0)
