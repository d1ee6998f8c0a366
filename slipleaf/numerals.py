"""Numerals: the numbers from 0 to 99 written in the words of a tongue."""

from slipleaf.bounds import is_within
from slipleaf.conditions import LETTERS
from slipleaf.errors import BadNumber, BadNumerals
from slipleaf.signs import is_letters

MANY = 100
MANY_UNITS = 20
MANY_TENS = 8
LONGEST_WORD = 12
LONGEST_JOINER = 5
# The places of what stands behind the words, as BadNumerals tells them.
PLACE_OF_FIRST = 28
PLACE_OF_JOINER = 29


class Numerals:
    """A way to write the numbers from 0 to 99 in words."""

    def __init__(self, units, tens, *, first="tens", joiner="-"):
        if not _is_list_of(units, MANY_UNITS) or not _is_list_of(tens, MANY_TENS):
            raise BadNumerals(-1)
        for place, word in enumerate(list(units) + list(tens)):
            if not is_letters(word, 1, LONGEST_WORD):
                raise BadNumerals(place)
        if not isinstance(first, str) or first not in ("tens", "units"):
            raise BadNumerals(PLACE_OF_FIRST)
        if not _is_joiner(joiner):
            raise BadNumerals(PLACE_OF_JOINER)
        self.written = tuple([_written(number, units, tens, first, joiner) for number in range(MANY)])

    @property
    def plain(self):
        """Whether there are no twins."""
        return len(set(self.written)) == MANY

    def reads(self, text):
        """Return all numbers that are written so, ascending."""
        return tuple([number for number, word in enumerate(self.written) if word == text])

    def twins(self):
        """Tell all pairs of numbers that are written alike, the smaller one first, ascending."""
        for small in range(MANY):
            for great in range(small + 1, MANY):
                if self.written[small] == self.written[great]:
                    yield (small, great)

    def __call__(self, number):
        if not is_within(number, 0, MANY - 1):
            raise BadNumber(number)
        return self.written[number]

    def __eq__(self, other):
        return isinstance(other, Numerals) and self.written == other.written


def _is_list_of(thing, many):
    """Tell whether this is a list or tuple with so many elements."""
    return isinstance(thing, (list, tuple)) and len(thing) == many


def _is_joiner(thing):
    """Tell whether this may stand between the words of tens and units."""
    if not isinstance(thing, str) or len(thing) > LONGEST_JOINER:
        return False
    return all([sign in LETTERS + " -" for sign in thing])


def _written(number, units, tens, first, joiner):
    """Return a number in words."""
    if number < MANY_UNITS:
        return units[number]
    ten, unit = tens[number // 10 - 2], units[number % 10]
    if number % 10 == 0:
        return ten
    return ten + joiner + unit if first == "tens" else unit + joiner + ten
