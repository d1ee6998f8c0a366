"""Readings: the lawful records with the fewest slips on a sheet."""

from slipleaf.bounds import is_within
from slipleaf.courses import Courses
from slipleaf.errors import BadNumber
from slipleaf.kinds import answers_of
from slipleaf.slips import SlipCounter

MOST_EXTRA = 1000


class Reading:
    """The reading of one sheet of an issue."""

    def __init__(self, issue, sheet):
        issue.check_sheet(sheet)
        self.issue = issue
        self.sheet = tuple(sheet)
        # Each record comes to row 1, so it overlooks the first page if that is empty.
        counter = SlipCounter(issue, sheet)
        self._entry = int(1 in counter.empty)
        self._courses = Courses(issue.form, _tolls_of(issue, counter))
        self._only = self._courses.lone_record()
        self.fewest = self._courses.least_slips() + self._entry

    @property
    def only(self):
        """The one record of the reading if it is sure, otherwise None."""
        return self._only

    def group(self, extra=0):
        """Return the reading with so many slips more."""
        check_extra(extra)
        return self._courses.within(self.fewest - self._entry + extra)

    def __bool__(self):
        return self._only is not None


def check_extra(extra):
    """Raise BadNumber if this is no number of slips more."""
    if not is_within(extra, 0, MOST_EXTRA):
        raise BadNumber(extra)


def _tolls_of(issue, counter):
    """Return the tolls of a sheet: the slips of an answer, of the gap behind it, and of the empty page it leads to."""
    tolls = []
    for row, (_, name, arrows) in enumerate(issue.booklet.rows, start=1):
        told = []
        for answer, arrow in zip(answers_of(issue.form.kind_of(name)), arrows):
            price = counter.row_slips(row, answer) + int(counter.is_overlooked(row, arrow))
            if arrow < issue.booklet.end and issue.pages[arrow - 1] != issue.pages[row - 1]:
                price = price + int(issue.pages[arrow - 1] in counter.empty)
            told.append((arrow, price))
        tolls.append(tuple(told[:1]) if told.count(told[0]) == len(told) else tuple(told))
    return tolls
