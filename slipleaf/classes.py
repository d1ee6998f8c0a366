"""Classes: the integers from 0 to 99 parted by rules."""

from slipleaf.bounds import is_ascending, is_span, is_within
from slipleaf.errors import BadNumber, BadRule

MANY = 100
MOST_RULES = 4
GREATEST_MODULUS = 100


class Classes:
    """The classes that some rules make: one for each rule, and one for all that is left."""

    def __init__(self, rules):
        if not isinstance(rules, (list, tuple)) or len(rules) > MOST_RULES:
            raise BadRule(-1)
        for at, rule in enumerate(rules):
            if not _is_rule(rule):
                raise BadRule(at)
        # For each number from 0 to 99 its class, and for each class its numbers.
        self.class_by_number = tuple([_class_in(rules, number) for number in range(MANY)])
        self.members = tuple([_numbers_with(self.class_by_number, place) for place in range(len(rules) + 1)])

    @property
    def leaders(self):
        """For each number from 0 to 99 the first one of its class, whatever the order of the classes."""
        return tuple([self.members[place][0] for place in self.class_by_number])

    def class_of(self, number):
        """Return the class of a number."""
        if not is_within(number, 0, MANY - 1):
            raise BadNumber(number)
        return self.class_by_number[number]

    def numbers_of(self, place):
        """Return the numbers in a class, ascending."""
        if not is_within(place, 0, len(self.members) - 1):
            raise BadNumber(place)
        return self.members[place]

    def finer(self, other):
        """Return None if these classes are finer than others, otherwise the first pair that shows that not."""
        for first, place in enumerate(self.class_by_number):
            for second in self.members[place]:
                if first < second and other.class_of(first) != other.class_of(second):
                    return (first, second)
        return None

    def __len__(self):
        return len(self.members)

    def __eq__(self, other):
        return isinstance(other, Classes) and self.leaders == other.leaders


def _is_rule(thing):
    """Tell whether this is a rule."""
    if not isinstance(thing, tuple) or len(thing) != 4:
        return False
    modulus, remainders, low, high = thing
    if not is_within(modulus, 1, GREATEST_MODULUS) or not is_span(low, high, MANY - 1):
        return False
    return is_ascending(remainders, 0, modulus - 1) and len(remainders) > 0


def _class_in(rules, number):
    """Return the place of the first rule that takes a number, or how many rules there are."""
    for place, (modulus, remainders, low, high) in enumerate(rules):
        if low <= number <= high and number % modulus in remainders:
            return place
    return len(rules)


def _numbers_with(class_by_number, place):
    """Return the numbers whose class is the one at a place."""
    return tuple([number for number, other in enumerate(class_by_number) if other == place])
