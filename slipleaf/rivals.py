"""Rivals: sheets without a lost page that have few slips for both of two records.

A pair `(x, y)` has the slips of the first and of the second record. A purse tells which pairs can
be, none with more slips than a limit, as the sum of 2 ** (x * wide + y); so a pair is added to all
pairs of a purse by shifting it. A lap tells, for each of four states, the purse of what may still
come; the number of a state is 1 if the gap of the first record has a filled row already, plus 2 if
that of the second one has.

A choice `(filled, x, y)` of a row tells what contents do there: whether they fill it, and the slips
from the answers that are due.
"""

from slipleaf.kinds import EMPTY, is_content, slips_between

LEAST_CONTENT = -2
GREATEST_CONTENT = 99
STATES = (0, 1, 2, 3)
# More than the slips that a row brings together with a gap.
MARGIN = 8


class Purses:
    """The arithmetic of purses with one limit."""

    def __init__(self, limit):
        self.limit = limit
        self.wide = limit + MARGIN
        self.whole = self.within(limit, limit)

    def within(self, first, second):
        """Return the purse of all pairs of at most these slips; it is empty for a number below 0."""
        row = (1 << (max(second, -1) + 1)) - 1
        purse = 0
        for slips in range(first + 1):
            purse = purse | (row << (slips * self.wide))
        return purse

    def added(self, purse, first, second):
        """Return a purse with a pair added to all pairs, without those that come above the limit."""
        return (purse << (first * self.wide + second)) & self.whole

    def least(self, purse):
        """Return the least number of slips that both numbers of some pair are within, or None."""
        for slips in range(self.limit + 1):
            if purse & self.within(slips, slips):
                return slips
        return None

    def has_within(self, purse, first, second):
        """Tell whether a purse has a pair that, added to this one, stays within the limit."""
        return purse & self.within(self.limit - first, self.limit - second) != 0


class Duels:
    """Compares records of one issue; each is told as a dict from its due rows to its answers there."""

    def __init__(self, issue):
        self.pages = issue.pages
        self.kinds = [issue.form.kind_of(row[1]) for row in issue.booklet]
        # What was worked out already: the slips of answers, and the choices of two answers.
        self.slips_known = {}
        self.choices_known = {}
        self.moves = {}
        for state in STATES:
            for due in STATES:
                for filled in (False, True):
                    self.moves[(state, due, filled)] = _moved(state, due, filled)

    def least_slips(self, purses, first, second):
        """Return the least number of slips that some sheet has at most for both records, or None if it is too great."""
        # To fill a row that is due for neither never spares a slip.
        rows = sorted(list(first) + [row for row in second if row not in first])
        lap, _ = self._laps(purses, first, second, rows)
        return purses.least(lap[0])

    def first_sheet(self, purses, first, second):
        """Return the first sheet that has at most the limit of slips for both records."""
        rows = list(range(1, len(self.kinds) + 1))
        _, behind = self._laps(purses, first, second, rows)
        spot = (0, 0, 0)
        sheet = []
        for on_page in self._by_page(rows):
            empty = self._empty_behind(spot, first, second, on_page)
            # Whether the page may be left empty: then its rows count otherwise.
            hollow = purses.has_within(behind[on_page[-1]][empty[0]], empty[1], empty[2])
            for row in on_page:
                for content in _contents_of(self.kinds[row - 1]):
                    onward = self._spot_behind(spot, row, content, first, second)
                    fits = purses.has_within(behind[row][onward[0]], onward[1], onward[2])
                    if fits or (hollow and content == EMPTY):
                        break
                hollow = hollow and content == EMPTY
                sheet.append(content)
                spot = onward
            spot = empty if hollow else spot
        return tuple(sheet)

    def _by_page(self, rows):
        """Return the lists of those of the rows that stand on one page."""
        told = {}
        for row in rows:
            told.setdefault(self.pages[row - 1], []).append(row)
        return list(told.values())

    def _laps(self, purses, first, second, rows):
        """Return the lap ahead of all these rows, and a dict from each row to the lap behind it."""
        lap = [1] * len(STATES)
        behind = {}
        for on_page in self._by_page(rows)[::-1]:
            ends = lap
            for row in on_page[::-1]:
                behind[row] = lap
                lap = self._row_lap(purses, lap, row, first, second)
            empty = [self._empty_behind((state, 0, 0), first, second, on_page) for state in STATES]
            lap = [
                purse | purses.added(ends[state], more, other)
                for purse, (state, more, other) in zip(lap, empty)
            ]
        return lap, behind

    def _row_lap(self, purses, behind, row, first, second):
        """Return the lap ahead of a row on a page that is not empty."""
        due = int(row in first) + 2 * int(row in second)
        choices = self._choices(self.kinds[row - 1], first.get(row), second.get(row))
        lap = []
        for state in STATES:
            purse = 0
            for filled, more, other in choices:
                onward, gap, beside = self.moves[(state, due, filled)]
                purse = purse | purses.added(behind[onward], more + gap, other + beside)
            lap.append(purse)
        return lap

    def _empty_behind(self, spot, first, second, on_page):
        """Return the state and the slips behind an empty page with these rows; spot: those ahead of it."""
        due = int(any([row in first for row in on_page])) + 2 * int(any([row in second for row in on_page]))
        return spot[0] & (3 - due), spot[1] + (due & 1), spot[2] + (due >> 1)

    def _spot_behind(self, spot, row, content, first, second):
        """Return the state and the slips behind a row with this content, on a page that is not empty."""
        due = int(row in first) + 2 * int(row in second)
        onward, gap, beside = self.moves[(spot[0], due, content != EMPTY)]
        kind = self.kinds[row - 1]
        return (
            onward,
            spot[1] + gap + self._slips(kind, first.get(row))[content],
            spot[2] + beside + self._slips(kind, second.get(row))[content],
        )

    def _slips(self, kind, answer):
        """Return a dict from contents to the slips from an answer; None is the answer where none is due."""
        if (kind, answer) not in self.slips_known:
            self.slips_known[(kind, answer)] = {
                content: 0 if answer is None else slips_between(kind, answer, content)
                for content in _contents_of(kind)
            }
        return self.slips_known[(kind, answer)]

    def _choices(self, kind, answer, other):
        """Return the choices of a row for two answers, without those that another one makes needless."""
        if (kind, answer, other) not in self.choices_known:
            both = answer is not None and other is not None
            beside = self._slips(kind, other)
            # Where the row is due for both, no gap goes over it.
            choices = sorted(set([
                (content != EMPTY and not both, slips, beside[content])
                for content, slips in self._slips(kind, answer).items()
            ]))
            self.choices_known[(kind, answer, other)] = [
                choice for choice in choices
                if not any([_spares(better, choice) for better in choices if better != choice])
            ]
        return self.choices_known[(kind, answer, other)]


def _contents_of(kind):
    """Return all contents of a kind, ascending."""
    return [content for content in range(LEAST_CONTENT, GREATEST_CONTENT + 1) if is_content(kind, content)]


def _spares(choice, other):
    """Tell whether a choice never brings more slips than the other one."""
    return choice[0] <= other[0] and choice[1] <= other[1] and choice[2] <= other[2]


def _moved(state, due, filled):
    """Return the state behind a row, and the slips of the gaps in which it is the first one that is filled.

    due is 1 if the row is due for the first record, plus 2 if it is due for the second one.
    """
    gaps = 3 - due if filled else 0
    fresh = gaps & (3 - state)
    return (state | gaps) & (3 - due), fresh & 1, fresh >> 1
