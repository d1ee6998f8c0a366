"""Conditions: what is one, how many words it has, what it names, and when it holds.

The functions words_within, all_names, truth and exchanged are for the other files:
the last three are passed what is known to be built right, and do not look at it again.
"""

from slipleaf.bounds import is_ascending, is_span, is_within
from slipleaf.errors import BadCondition

WORDS = (
    "ask", "check", "twice", "part", "each", "end", "pick", "tick", "count", "when", "always",
    "asked", "is", "has", "from", "sum", "to", "same", "not", "and", "or",
)
LETTERS = "abcdefghijklmnopqrstuvwxyz"
DIGITS = ("1", "2", "3", "4", "5")
ALWAYS = ("always",)
MOST_WORDS = 120


def is_name(thing):
    """Tell whether this is a name: 1 to 8 letters that are no word of the language."""
    if not isinstance(thing, str) or not 1 <= len(thing) <= 8:
        return False
    return thing not in WORDS and all([sign in LETTERS for sign in thing])


def is_full_name(thing):
    """Tell whether this is a name, or a name with a digit from 1 to 5 behind it."""
    if not isinstance(thing, str):
        return False
    return is_name(thing) or (thing[-1:] in DIGITS and is_name(thing[:-1]))


def is_condition(thing):
    """Tell whether this is a condition."""
    return words_within(thing, MOST_WORDS) > 0


def words_within(thing, room):
    """Return the number of words of a condition; 0 if it is none or has more words than room.

    The room shrinks on the way inwards, so that deep or endlessly shared tuples end soon.
    """
    if room < 1 or not isinstance(thing, tuple) or not thing or not isinstance(thing[0], str):
        return 0
    if thing[0] not in ("not", "and", "or"):
        many = _plain_words(thing)
        return many if many <= room else 0
    if not _joins_right(thing):
        return 0
    # Two brackets, and one word less than there are parts between them: as many as the tuple is long.
    total = 1 if thing[0] == "not" else len(thing)
    for part in thing[1:]:
        inner = words_within(part, room - total)
        if inner == 0:
            return 0
        total = total + inner
    return total


def _joins_right(thing):
    """Tell whether a not, and, or has as many parts as it may have."""
    if thing[0] == "not":
        return len(thing) == 2
    return 3 <= len(thing) <= 7


def _plain_words(thing):
    """Return the number of words of a condition that contains no other; 0 if it is none."""
    word, size = thing[0], len(thing)
    if word == "always":
        return 1 if size == 1 else 0
    if word == "sum":
        return _sum_words(thing)
    if size < 2 or not is_full_name(thing[1]):
        return 0
    if word == "asked" and size == 2:
        return 2
    if word == "is" and size == 3 and _are_answers(thing[2]):
        return 2 + len(thing[2])
    if word == "has" and size == 3 and is_within(thing[2], 0, 3):
        return 3
    if word == "from" and size == 4 and is_span(thing[2], thing[3], 99):
        return 4
    if word == "same" and size == 3 and is_full_name(thing[2]) and thing[1] != thing[2]:
        return 3
    return 0


def _are_answers(thing):
    """Tell whether this may be the answers of an `is`."""
    return isinstance(thing, tuple) and 1 <= len(thing) <= 15 and is_ascending(thing, 0, 15)


def _sum_words(thing):
    """Return the number of words of a `sum`; 0 if it is not built right."""
    if len(thing) != 4 or not isinstance(thing[1], tuple) or not is_span(thing[2], thing[3], 495):
        return 0
    names = thing[1]
    if not 1 <= len(names) <= 5 or not all([is_full_name(name) for name in names]):
        return 0
    # `sum`, `to` and the two bounds stand beside the names.
    return len(names) + 4 if len(set(names)) == len(names) else 0


def _demand_condition(condition):
    """Raise BadCondition if this is no condition."""
    if not is_condition(condition):
        raise BadCondition()


def length_of(condition):
    """Return the number of words of a condition."""
    _demand_condition(condition)
    return words_within(condition, MOST_WORDS)


def names_in(condition):
    """Return the full names of a condition as they stand in it, each as often as it does."""
    _demand_condition(condition)
    return tuple(all_names(condition))


def holds(condition, told):
    """Tell whether a condition holds; a name that is missing in told has the value None."""
    _demand_condition(condition)
    return truth(condition, told)


def renamed(condition, names):
    """Return the condition with each full name exchanged that is a key of names."""
    _demand_condition(condition)
    return exchanged(condition, names)


def all_names(condition):
    """Return the list of the full names of what is known to be a condition."""
    word = condition[0]
    if word in ("not", "and", "or"):
        return [name for part in condition[1:] for name in all_names(part)]
    if word == "always":
        return []
    if word == "sum":
        return list(condition[1])
    if word == "same":
        return [condition[1], condition[2]]
    return [condition[1]]


def truth(condition, told):
    """Tell whether what is known to be a condition holds."""
    word = condition[0]
    if word == "not":
        return not truth(condition[1], told)
    if word == "and":
        return all([truth(part, told) for part in condition[1:]])
    if word == "or":
        return any([truth(part, told) for part in condition[1:]])
    if word == "always":
        return True
    if word == "sum":
        return _sum_holds(condition, told)
    value = told.get(condition[1])
    if word == "same":
        return value == told.get(condition[2])
    if word == "is":
        return value in condition[2]
    if word == "asked" or value is None:
        return value is not None
    if word == "has":
        return (value >> condition[2]) & 1 == 1
    return condition[2] <= value <= condition[3]


def _sum_holds(condition, told):
    """Tell whether the values of a `sum` that are not None make a sum within its bounds."""
    values = [told.get(name) for name in condition[1]]
    total = sum([value for value in values if value is not None])
    return condition[2] <= total <= condition[3]


def exchanged(condition, names):
    """Return what is known to be a condition with its names exchanged, all at once."""
    word = condition[0]
    if word in ("not", "and", "or"):
        return (word,) + tuple([exchanged(part, names) for part in condition[1:]])
    if word == "always":
        return condition
    if word == "sum":
        return (word, tuple([names.get(name, name) for name in condition[1]])) + condition[2:]
    first = names.get(condition[1], condition[1])
    if word == "same":
        return (word, first, names.get(condition[2], condition[2]))
    return (word, first) + condition[2:]
