"""Slips: how many of them lead from a record to a sheet."""

from slipleaf.arrows import due_rows
from slipleaf.errors import BadRecord
from slipleaf.kinds import EMPTY, slips_between
from slipleaf.records import is_record


def empty_pages(issue, sheet):
    """Return the numbers of all pages that were not lost and on which no row is filled, ascending."""
    issue.check_sheet(sheet)
    return tuple(SlipCounter(issue, sheet).empty)


def filled_gaps(issue, record, sheet):
    """Return how many gaps of a record have a filled row."""
    _check_both(issue, record, sheet)
    return SlipCounter(issue, sheet).overlooked_arrows(due_rows(issue.booklet, record))


def slips_on(issue, record, sheet):
    """Return the slips of a record on a sheet."""
    _check_both(issue, record, sheet)
    return SlipCounter(issue, sheet).slips_of(due_rows(issue.booklet, record), record)


class SlipCounter:
    """Counts slips on what is known to be a sheet; due: the due rows of what is known to be a record."""

    def __init__(self, issue, sheet):
        filled = [content is not None and content != EMPTY for content in sheet]
        ahead = [0]
        for fine in filled:
            ahead.append(ahead[-1] + int(fine))
        kept = {page: True for content, page, fine in zip(sheet, issue.pages, filled) if content is None or fine}
        self.issue = issue
        self.sheet = sheet
        # The keys are the empty pages, ascending.
        self.empty = {page: True for page in range(1, issue.page_count + 1) if page not in kept}
        # For each number up to that of the last row, how many rows up to this one are filled.
        self.ahead = ahead

    def is_overlooked(self, row, onward):
        """Tell whether a row is filled between these two numbers."""
        return self.ahead[onward - 1] > self.ahead[row]

    def overlooked_arrows(self, due):
        """Return how many gaps have a filled row."""
        gaps = list(zip(due, list(due[1:]) + [self.issue.booklet.end]))
        return len([row for row, onward in gaps if self.is_overlooked(row, onward)])

    def overlooked_pages(self, due):
        """Return how many empty pages have a due row."""
        return len(set([page for page in [self.issue.pages[row - 1] for row in due] if page in self.empty]))

    def row_slips(self, row, answer):
        """Return the slips from the answer that is due in a row to its content."""
        content = self.sheet[row - 1]
        if content is None or content == answer or self.issue.pages[row - 1] in self.empty:
            return 0
        return slips_between(self.issue.form.kind_of(self.issue.booklet.rows[row - 1][1]), answer, content)

    def slips_of(self, due, record):
        """Return the slips of a record."""
        total = self.overlooked_pages(due) + self.overlooked_arrows(due)
        for row in due:
            name = self.issue.booklet.rows[row - 1][1]
            total = total + self.row_slips(row, record[self.issue.form.place_of(name)])
        return total


def _check_both(issue, record, sheet):
    """Raise BadRecord, then BadSheet, if these are no record and no sheet of the issue."""
    if not is_record(issue.form, record):
        raise BadRecord(0)
    issue.check_sheet(sheet)
