"""Bearing: how many slips an issue bears until readings are no longer sure, or are wrong unseen.

The function lawful_records is for the other files.
"""

from slipleaf.arrows import due_rows
from slipleaf.errors import TooMany
from slipleaf.nodes import first_records, layers_of_lawful
from slipleaf.rivals import Duels, Purses
from slipleaf.slips import SlipCounter

MOST_RECORDS = 60


def rivalry(issue):
    """Return the least slips by which two lawful records are rivals, the first such two, and their first sheet."""
    records = lawful_records(issue.form)
    if len(records) < 2:
        return None
    duels = Duels(issue)
    told = [_answers_in(issue, record) for record in records]
    # A right sheet has no slips for its own record, so two of them need no more slips than are unseen.
    slips, at, beside = _first_rivals(duels, told, _least_unseen(issue, records)[0])
    sheet = duels.first_sheet(Purses(slips), told[at], told[beside])
    return (slips, records[at], records[beside], sheet)


def unseen(issue):
    """Return the least slips that a lawful record has on the right sheet of another one, and the first such two."""
    records = lawful_records(issue.form)
    if len(records) < 2:
        return None
    return _least_unseen(issue, records)


def lawful_records(form):
    """Return the list of all lawful records, in order."""
    layers, first = layers_of_lawful(form)
    records = first_records(form.questions, layers, first, MOST_RECORDS + 1)
    if len(records) > MOST_RECORDS:
        raise TooMany("record")
    return records


def _answers_in(issue, record):
    """Return a dict from the due rows of a record to its answers there."""
    form, rows = issue.form, issue.booklet.rows
    return {row: record[form.place_of(rows[row - 1][1])] for row in due_rows(issue.booklet, record)}


def _least_unseen(issue, records):
    """Return what unseen does, for at least two records."""
    due = [due_rows(issue.booklet, record) for record in records]
    counters = [SlipCounter(issue, issue.right_sheet(record)) for record in records]
    found = None
    for record, rows in zip(records, due):
        for other, counter in zip(records, counters):
            if other != record:
                slips = counter.slips_of(rows, record)
                if found is None or slips < found[0]:
                    found = (slips, record, other)
    return found


def _first_rivals(duels, told, limit):
    """Return the least slips by which two records are rivals, no more than a limit, and the numbers of these two."""
    purses = Purses(limit)
    found = None
    for at in range(len(told)):
        for beside in range(at + 1, len(told)):
            slips = duels.least_slips(purses, told[at], told[beside])
            # No sheet is right for two records.
            if slips == 1:
                return (slips, at, beside)
            if slips is not None:
                found = (slips, at, beside)
                # From here on only fewer slips count.
                purses = Purses(slips - 1)
    return found
