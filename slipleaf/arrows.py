"""Arrows: the least booklet of a form, and the rows that are due."""

from slipleaf.booklets import MOST_ROWS, Booklet
from slipleaf.errors import TooMany
from slipleaf.groups import Group
from slipleaf.records import person_of


def least_booklet(form):
    """Return the booklet that leads right with the fewest rows, of which all ask."""
    table = Group.every(form).table
    asking = _asking_rests(table)
    if len(asking) > MOST_ROWS:
        raise TooMany("row")
    numbers = _row_numbers(table, asking)
    rows = []
    for place, rest in asking:
        arrows = [numbers[(place + 1, lead)] for _, lead in table[place][rest]]
        rows.append(("ask", form.names[place], tuple(arrows)))
    return Booklet(form, rows)


def row_count(form):
    """Return how many rows the least booklet has, or would have."""
    return len(_asking_rests(Group.every(form).table))


def due_rows(booklet, record):
    """Return the numbers of the rows that ask on the way of a person with this record."""
    way = booklet.way(person_of(booklet.form, record))
    return tuple([number for number in way if booklet.rows[number - 1][0] == "ask"])


def _asking_rests(table):
    """Return the place and the number of each rest at which a question is asked, in order."""
    return [
        (place, rest) for place, rests in enumerate(table[:-1])
        for rest, moves in enumerate(rests) if moves[0][0] is not None
    ]


def _row_numbers(table, asking):
    """Return, for each place and rest, the number of the first row on the way from there."""
    numbers = {pair: number for number, pair in enumerate(asking, start=1)}
    numbers[(len(table) - 1, 0)] = len(asking) + 1
    for place in range(len(table) - 2, -1, -1):
        for rest, moves in enumerate(table[place]):
            if (place, rest) not in numbers:
                numbers[(place, rest)] = numbers[(place + 1, moves[0][1])]
    return numbers
