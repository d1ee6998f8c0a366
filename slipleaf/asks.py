"""Asks: whether more houses are in one group than in another, and which houses would settle it."""

from slipleaf.errors import TooMany, Unlike
from slipleaf.totals import check_counted, ends_by_house

MOST_HOUSES = 12


class Ask:
    """Whether the total of the first group is greater than that of the second."""

    def __init__(self, first, second):
        if first.form != second.form:
            raise Unlike()
        self.front = first
        self.rear = second

    def __call__(self, book, extra=0):
        """Return "sure", "never" or "open"."""
        spreads = list(self._spreads(book, extra).values())
        if sum([min(spread) for spread in spreads]) > 0:
            return "sure"
        return "open" if sum([max(spread) for spread in spreads]) > 0 else "never"

    def can_settle(self, book, extra=0):
        """Return the fewest houses of which some records settle it."""
        rest, wide = _parted(self._spreads(book, extra))
        for houses in _sets_of(list(wide)):
            low, high = _range_without(rest, wide, houses)
            # Records that are best for it, then those that are worst.
            if low + sum([max(wide[house]) for house in houses]) > 0:
                return houses
            if high + sum([min(wide[house]) for house in houses]) <= 0:
                return houses
        return ()

    def settle_surely(self, book, extra=0):
        """Return the fewest houses of which all records settle it."""
        rest, wide = _parted(self._spreads(book, extra))
        for houses in _sets_of(list(wide)):
            low, high = _range_without(rest, wide, houses)
            sums = {0: True}
            for house in houses:
                sums = {total + step: True for total in sums for step in wide[house]}
            if all([total + low > 0 or total + high <= 0 for total in sums]):
                return houses
        return ()

    def _spreads(self, book, extra):
        """Return a dict from the houses that count to the different differences of their records."""
        check_counted(book, [self.front, self.rear], extra)
        told = ends_by_house(book, [self.front, self.rear], extra)
        return {house: sorted(set([front - rear for front, rear in ends])) for house, ends in told.items()}


def _parted(spreads):
    """Return the sum of the differences that are settled, and a dict of the houses that have several."""
    wide = {house: spread for house, spread in spreads.items() if len(spread) > 1}
    if len(wide) > MOST_HOUSES:
        raise TooMany("house")
    return sum([spread[0] for spread in spreads.values() if len(spread) == 1]), wide


def _sets_of(houses):
    """Return all sets of some houses as ascending tuples, those with fewer houses first, then in order."""
    sets = [()]
    for house in houses:
        sets = sets + [told + (house,) for told in sets]
    return [told for _, told in sorted([(len(told), told) for told in sets])]


def _range_without(rest, wide, houses):
    """Return the least and the greatest sum of the differences of all houses but some."""
    others = [wide[house] for house in wide if house not in houses]
    return rest + sum([min(spread) for spread in others]), rest + sum([max(spread) for spread in others])
