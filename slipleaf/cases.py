"""Cases: the papers of one household, read together."""

from slipleaf.courses import Courses
from slipleaf.errors import BadRecord, NoRecord, Unlike
from slipleaf.nodes import NOWHERE
from slipleaf.papers import Sheet
from slipleaf.prices import Prices
from slipleaf.readings import check_extra
from slipleaf.records import is_record


class Case:
    """Papers for one issue."""

    def __init__(self, issue, papers=()):
        if issue.lawful_layers[1] == NOWHERE:
            raise NoRecord()
        for paper in papers:
            _check_paper(issue, paper)
        self.issue = issue
        self.form = issue.form
        self._papers = list(papers)
        # What the property priced tells, once it was asked for.
        self._priced_kept = None

    def put(self, paper):
        """Put one more paper behind those that are there."""
        _check_paper(self.issue, paper)
        self._papers.append(paper)
        self._priced_kept = None

    def __len__(self):
        return len(self._papers)

    def __iter__(self):
        return iter(self._papers)

    def __eq__(self, other):
        if not isinstance(other, Case) or self.issue != other.issue:
            return False
        return _key_counts(self._papers) == _key_counts(other._papers)

    def __add__(self, other):
        if self.issue != other.issue:
            raise Unlike()
        return Case(self.issue, [paper for papers in (self._papers, other._papers) for paper in papers])

    @property
    def priced(self):
        """The courses of all lawful records with their slips in this case (slipleaf/courses.py)."""
        if self._priced_kept is None:
            self._priced_kept = _courses_of(self.issue, self._papers)
        return self._priced_kept

    def slips_of(self, record):
        """Return the slips of a record on all papers."""
        if not is_record(self.form, record):
            raise BadRecord(0)
        return sum([paper.slips(record) for paper in self._papers])

    def least(self):
        """Return the fewest slips that a lawful record has."""
        return self.priced.least_slips()

    def group(self, extra=0):
        """Return the group of the lawful records with at most so many slips more than the fewest."""
        check_extra(extra)
        return self.priced.within(extra)

    def first_within(self, extra, most):
        """Return the first records of such a group, so many of them if there are more, however large it is."""
        check_extra(extra)
        return self.priced.first_within(extra, most)

    def __bool__(self):
        return self.priced.lone_record() is not None


def prices_of(issue, papers):
    """Return the prices of papers for this issue."""
    sheets = [paper.counter for paper in papers if isinstance(paper, Sheet)]
    return Prices(issue, sheets, [claim for paper in papers for claim in paper.claims()])


def _courses_of(issue, papers):
    """Return the courses of papers for this issue."""
    return Courses(issue, prices_of(issue, papers))


def _check_paper(issue, paper):
    """Raise Unlike for a paper of another form, or a sheet of another issue."""
    if paper.form != issue.form or (isinstance(paper, Sheet) and paper.issue != issue):
        raise Unlike()


def _key_counts(papers):
    """Return a dict from the keys of papers to how often they are there."""
    counts = {}
    for paper in papers:
        counts[paper.key] = counts.get(paper.key, 0) + 1
    return counts
