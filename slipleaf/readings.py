"""Readings: the lawful records with the fewest slips on a sheet."""

from slipleaf.bounds import is_within
from slipleaf.courses import MOST_EXTRA, Courses
from slipleaf.errors import BadNumber
from slipleaf.prices import Prices
from slipleaf.slips import SlipCounter


class Reading:
    """The reading of one sheet of an issue."""

    def __init__(self, issue, sheet):
        issue.check_sheet(sheet)
        self.issue = issue
        self.sheet = tuple(sheet)
        self._courses = Courses(issue, Prices(issue, [SlipCounter(issue, sheet)], []))
        self._only = self._courses.lone_record()
        self.fewest = self._courses.least_slips()

    @property
    def only(self):
        """The one record of the reading if it is sure, otherwise None."""
        return self._only

    def group(self, extra=0):
        """Return the reading with so many slips more."""
        check_extra(extra)
        return self._courses.within(extra)

    def __bool__(self):
        return self._only is not None


def check_extra(extra):
    """Raise BadNumber if this is no number of slips more."""
    if not is_within(extra, 0, MOST_EXTRA):
        raise BadNumber(extra)
