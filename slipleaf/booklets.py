"""Booklets: numbered rows that ask or look, with arrows from row to row."""

from slipleaf.bounds import is_within
from slipleaf.errors import BadNumber, BadRow, TooMany
from slipleaf.kinds import answers_of, size_of
from slipleaf.records import check_person

MOST_ROWS = 400


class Booklet:
    """The rows of a booklet for one form."""

    def __init__(self, form, rows):
        if len(rows) > MOST_ROWS:
            raise TooMany("row")
        for number, row in enumerate(rows, start=1):
            if not _is_row(form, row, number + 1, len(rows) + 1):
                raise BadRow(number)
        self.form = form
        self.rows = tuple(rows)

    @property
    def end(self):
        """The number behind the last row."""
        return len(self.rows) + 1

    def way(self, person):
        """Return the numbers of all rows to which a person comes."""
        check_person(self.form, person)
        told = {}
        way = []
        number = 1
        while number < self.end:
            row = self.rows[number - 1]
            way.append(number)
            number = self._number_behind(row, person, told)
            if row[0] == "ask":
                told[row[1]] = True
        return tuple(way)

    def asked(self, person):
        """Return the names that the rows ask on the way of a person, each as often as it is asked."""
        rows = [self.rows[number - 1] for number in self.way(person)]
        return tuple([row[1] for row in rows if row[0] == "ask"])

    def first_look(self):
        """Return the number of the first row that looks, or 0."""
        for number, row in enumerate(self.rows, start=1):
            if row[0] == "look":
                return number
        return 0

    def _number_behind(self, row, person, told):
        """Return the number to which a person goes from a row; told: what was answered ahead of it."""
        if row[0] == "look" and row[1] not in told:
            return row[2]
        answer = person[self.form.place_of(row[1])]
        return row[-1][answers_of(self.form.kind_of(row[1])).index(answer)]

    def __getitem__(self, number):
        if not is_within(number, 1, len(self.rows)):
            raise BadNumber(number)
        return self.rows[number - 1]

    def __len__(self):
        return len(self.rows)

    def __iter__(self):
        return iter(self.rows)

    def __eq__(self, other):
        return isinstance(other, Booklet) and self.form == other.form and self.rows == other.rows


def _is_row(form, thing, low, high):
    """Tell whether this is a row that leads to numbers from low to high."""
    if not isinstance(thing, tuple) or not thing or not isinstance(thing[0], str):
        return False
    if thing[0] == "ask":
        return len(thing) == 3 and _is_arrowed(form, thing[1], thing[2], low, high)
    if thing[0] == "look":
        return len(thing) == 4 and is_within(thing[2], low, high) and _is_arrowed(form, thing[1], thing[3], low, high)
    return False


def _is_arrowed(form, name, arrows, low, high):
    """Tell whether these are a question's name and an arrow for each of its answers."""
    if not isinstance(name, str) or name not in form or not isinstance(arrows, tuple):
        return False
    return len(arrows) == size_of(form.kind_of(name)) and all([is_within(arrow, low, high) for arrow in arrows])
