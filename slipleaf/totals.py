"""Totals: how many houses of a book have records in some groups, told as exact bounds.

The functions check_counted and ends_by_house are for the other files.
"""

from slipleaf.books import is_struck_by, papers_by
from slipleaf.cases import prices_of
from slipleaf.entries import is_house
from slipleaf.errors import BadNumber, TooMany, Unlike
from slipleaf.outlooks import Outlook
from slipleaf.readings import check_extra

MOST_GROUPS = 3
MOST_POINTS = 2000
# Points are added up as one number each: no total comes to this, because there are fewer houses.
BASE = 1000


def counting(book):
    """Return the houses that count: all that are not struck, ascending."""
    return tuple([house for house, entries in book.by_house().items() if not is_struck_by(entries)])


def open_group(book, house, *, extra=0):
    """Return the group of the records that a house may have, with so many slips more than the fewest."""
    if not is_house(house) or house not in book.houses() or book.is_struck(house):
        raise BadNumber(house)
    return book.case_of(house).group(extra)


def bounds(book, group, *, extra=0):
    """Return the least and the greatest total of a group in any outcome."""
    check_counted(book, [group], extra)
    told = list(ends_by_house(book, [group], extra).values())
    return (len([ends for ends in told if (0,) not in ends]), len([ends for ends in told if (1,) in ends]))


def points(book, groups, *, extra=0):
    """Return all tuples of the totals of some groups in one outcome, ascending."""
    if not 1 <= len(groups) <= MOST_GROUPS:
        raise BadNumber(len(groups))
    check_counted(book, groups, extra)
    reached = [0]
    for ends in ends_by_house(book, groups, extra).values():
        steps = [_number_of(end) for end in ends]
        reached = list({number + step: True for number in reached for step in steps})
        # Points never become fewer by one house more.
        if len(reached) > MOST_POINTS:
            raise TooMany("point")
    return tuple([_point_of(number, len(groups)) for number in sorted(reached)])


def check_counted(book, groups, extra):
    """Raise Unlike for a group of another form than the book's, then BadNumber for wrong slips more."""
    for group in groups:
        if group.form != book.issue.form:
            raise Unlike()
    check_extra(extra)


def ends_by_house(book, groups, extra):
    """Return a dict from the houses that count to the list of the ends that their records may have.

    An end is a tuple that has, for each group, 1 if the record is in the group, and otherwise 0.
    """
    outlook = Outlook(book.issue, groups)
    known, told = {}, {}
    for house, entries in book.by_house().items():
        if not is_struck_by(entries):
            papers = papers_by(book.issue, entries)
            key = tuple([paper.key for paper in papers])
            if key not in known:
                known[key] = outlook.seen_by(prices_of(book.issue, papers), extra)
            told[house] = known[key]
    return told


def _number_of(point):
    """Return the number of a point: those of greater points are greater."""
    number = 0
    for total in point:
        number = number * BASE + total
    return number


def _point_of(number, many):
    """Return the point, with so many totals, that has this number."""
    totals = []
    for _ in range(many):
        number, total = divmod(number, BASE)
        totals.append(total)
    return tuple(totals[::-1])
