"""Repeats: questions that are asked once or twice more, so that slips are seen."""

from slipleaf.arrows import due_rows
from slipleaf.bearing import lawful_records
from slipleaf.booklets import MOST_ROWS
from slipleaf.bounds import is_within
from slipleaf.errors import BadNumber, BadOrder, TooMany
from slipleaf.forms import Form
from slipleaf.issues import Issue
from slipleaf.slips import SlipCounter

LETTERS = "abcdefghijklmnopqrstuvwxyz"
DIGITS = "12345"
LEAST_WISH = 2
MOST_WISH = 4
MOST_TIMES = 2
MOST_QUESTIONS = 5


def repeated(form, times):
    """Return the form that also asks some questions again; times: pairs of a name and a number of times."""
    at = -1
    for name, _ in times:
        if name not in form or form.place_of(name) <= at:
            raise BadOrder(name)
        at = form.place_of(name)
    for _, many in times:
        if not is_within(many, 1, MOST_TIMES):
            raise BadNumber(many)
    again = [name for name, many in times for _ in range(many)]
    # If there are fewer free names than repeats, there are too many questions as well.
    items = [("twice", name, new) for name, new in zip(again, _free_names(form))]
    return Form(list(form.flat) + items)


def fewest_repeats(form, wish, *, rows=1):
    """Return the pairs of a name and a number of times with the least sum that grant a wish, or None."""
    if not is_within(wish, LEAST_WISH, MOST_WISH):
        raise BadNumber(wish)
    if not is_within(rows, 1, MOST_ROWS):
        raise BadNumber(rows)
    if len(form) > MOST_QUESTIONS:
        raise TooMany("question")
    records = lawful_records(form)
    barred = []
    # The two records that did not do lately are likely not to do again.
    suspects = [(record, other) for record in records for other in records if record != other]
    for times in _all_times(len(form)):
        if not any([_are_more(times, less) for less in barred]):
            issue = _plain_issue(form, times, rows)
            if issue is None:
                # With more repeats there is no issue either.
                barred.append(times)
            else:
                at = _first_doubt(issue, times, wish, suspects)
                if at is None:
                    return _pairs_of(form, times)
                suspects.insert(0, suspects.pop(at))
    return None


def _free_names(form):
    """Return the list of the new names that neither a question nor a check of the form has."""
    barred = form.names + tuple([check[0] for check in form.checks])
    names = ["r" + letter + digit for letter in LETTERS for digit in DIGITS]
    return [name for name in names if name not in barred]


def _all_times(many):
    """Return the list of all times for so many questions, those with the least sum first."""
    found = [()]
    for _ in range(many):
        found = [told + (times,) for told in found for times in range(MOST_TIMES + 1)]
    return [told for _, told in sorted([(sum(told), told) for told in found])]


def _are_more(times, others):
    """Tell whether each question is repeated at least as often as in others."""
    return all([many >= other for many, other in zip(times, others)])


def _pairs_of(form, times):
    """Return the pairs of a name and its number of times, without those that are 0."""
    return tuple([(name, many) for name, many in zip(form.names, times) if many > 0])


def _plain_issue(form, times, rows):
    """Return the plain issue of the repeated form, or None if it cannot be made."""
    try:
        return Issue.made(repeated(form, _pairs_of(form, times)), rows)
    except TooMany:
        return None


def _first_doubt(issue, times, wish, suspects):
    """Return the number of the first pair of which one has fewer slips than wished on the right sheet of the other."""
    counters, due = {}, {}
    for at, (record, other) in enumerate(suspects):
        if other not in counters:
            counters[other] = SlipCounter(issue, issue.right_sheet(_longer(other, times)))
        longer = _longer(record, times)
        if record not in due:
            due[record] = due_rows(issue.booklet, longer)
        if counters[other].slips_of(due[record], longer) < wish:
            return at
    return None


def _longer(record, times):
    """Return the lawful record of the repeated form: all repeats have the value of their question."""
    return record + tuple([value for value, many in zip(record, times) for _ in range(many)])
