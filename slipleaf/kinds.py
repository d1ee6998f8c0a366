"""Kinds of questions: their answers, the contents of paper, and the slips between them.

The function all_slips is for the other files.
"""

from slipleaf.bounds import is_within
from slipleaf.errors import BadAnswer, BadContent, BadKind

EMPTY = -1
UNREADABLE = -2


def is_kind(thing):
    """Tell whether this is a kind."""
    if not isinstance(thing, tuple) or not thing or not isinstance(thing[0], str):
        return False
    if thing[0] == "pick":
        return len(thing) == 2 and is_within(thing[1], 2, 6)
    if thing[0] == "tick":
        return len(thing) == 2 and is_within(thing[1], 2, 4)
    if thing[0] == "count":
        return len(thing) == 3 and is_within(thing[1], 0, 98) and is_within(thing[2], thing[1] + 1, 99)
    return False


def _ends(kind):
    """Return the least and the greatest answer; all numbers between them are answers."""
    if not is_kind(kind):
        raise BadKind()
    if kind[0] == "pick":
        return 0, kind[1] - 1
    if kind[0] == "tick":
        return 1, (1 << kind[1]) - 1
    return kind[1], kind[2]


def answers_of(kind):
    """Return all answers of a kind, ascending."""
    low, high = _ends(kind)
    return tuple(range(low, high + 1))


def size_of(kind):
    """Return how many answers a kind has."""
    low, high = _ends(kind)
    return high - low + 1


def is_answer(kind, thing):
    """Tell whether this is an answer of the kind."""
    low, high = _ends(kind)
    return is_within(thing, low, high)


def is_content(kind, thing):
    """Tell whether this may stand on paper where an answer of the kind is due."""
    low, high = _ends(kind)
    if kind[0] == "tick":
        return is_within(thing, EMPTY, EMPTY) or is_within(thing, low, high)
    if kind[0] == "count":
        return is_within(thing, UNREADABLE, 99)
    return is_within(thing, UNREADABLE, high)


def slips_between(kind, answer, content):
    """Return the number of slips that lead from an answer to a content."""
    if not is_answer(kind, answer):
        raise BadAnswer("")
    if not is_content(kind, content):
        raise BadContent()
    if kind[0] == "tick":
        # Where a box differs, just one of the two numbers has its bit.
        return len(_boxes(answer ^ max(content, 0)))
    if kind[0] == "pick" or content < 0:
        return int(answer != content)
    return int(answer // 10 != content // 10) + int(answer % 10 != content % 10)


def all_slips(kind, content):
    """Return, for each answer of what is known to be a kind, the slips to what is known to be its content."""
    answers = answers_of(kind)
    if kind[0] == "tick":
        return tuple([slips_between(kind, answer, content) for answer in answers])
    if kind[0] == "pick" or content < 0:
        return tuple([int(answer != content) for answer in answers])
    ten, one = content // 10, content % 10
    return tuple([int(answer // 10 != ten) + int(answer % 10 != one) for answer in answers])


def ticked(kind, content):
    """Return the boxes that are ticked in a content of a pick or tick, ascending."""
    if not is_kind(kind) or kind[0] == "count":
        raise BadKind()
    if not is_content(kind, content):
        raise BadContent()
    if content < 0:
        return ()
    return (content,) if kind[0] == "pick" else _boxes(content)


def _boxes(number):
    """Return the boxes, of the at most four of a tick, whose bits are in the number."""
    return tuple([box for box in range(4) if (number >> box) & 1 == 1])
