"""Items of forms: whether they are built right, and how they unroll to questions and checks.

The functions check_built, check_uses, need_within and check_within are for the other files.
"""

from slipleaf.conditions import ALWAYS, exchanged, is_condition, is_full_name, is_name
from slipleaf.errors import BadItem, BadUse, TooLong, Twice, Unknown
from slipleaf.kinds import is_answer, is_kind

MOST_AROUND = 4
MOST_MEMBERS = 5


def unrolled(items):
    """Return the pair of the questions and the checks to which items unroll."""
    check_built(items)
    questions = []
    checks = []
    kinds = {}
    checked = {}
    # What is still to be gone through, the next one last: items with the conditions around them.
    left = [(item, ()) for item in items[::-1]]
    while left:
        item, around = left.pop()
        word = item[0]
        if word == "part":
            check_uses(item[1], kinds)
            left.extend([(inner, _deeper(around, item[1])) for inner in item[2][::-1]])
        elif word == "each":
            left.extend(_members_of(item, around, kinds)[::-1])
        elif word == "check":
            checks.append(_check_told(item, around, kinds, checked, len(questions)))
            checked[item[1]] = True
        else:
            name, kind, need = _question_told(item, around, kinds, checked)
            questions.append((name, kind, need))
            kinds[name] = kind
            if word == "twice":
                checks.append((name, len(questions), _fitting(name, check_within(around, ("same", item[1], name)))))
                checked[name] = True
    return tuple(questions), tuple(checks)


def _question_told(item, around, kinds, checked):
    """Return the question of an item that asks, or asks again, with the conditions around it."""
    if item[0] == "ask":
        _, name, kind, condition = item
        if name in kinds:
            raise Twice(name)
        check_uses(condition, kinds)
        return (name, kind, _fitting(name, need_within(around, condition)))
    _, asked, name = item
    kind = _kind_in(kinds, asked)
    if name in kinds or name in checked:
        raise Twice(name)
    return (name, kind, _fitting(name, need_within(around, ("asked", asked))))


def _check_told(item, around, kinds, checked, place):
    """Return the check of an item, with the conditions around it."""
    _, name, condition = item
    if name in checked:
        raise Twice(name)
    check_uses(condition, kinds)
    return (name, place, _fitting(name, check_within(around, condition)))


def _members_of(item, around, kinds):
    """Return the items of a round, once for each member there can be, with the conditions around them."""
    _, name, items = item
    kind = _kind_in(kinds, name)
    if kind[0] != "count" or kind[2] > MOST_MEMBERS:
        raise BadUse(name)
    told = []
    for member in range(1, kind[2] + 1):
        digit = str(member)
        names = {inner: inner + digit for inner in _questions_of(items)}
        deeper = around + (("from", name, member, kind[2]),)
        told.extend([(inner, deeper) for inner in _numbered(items, names, digit)])
    return told


def check_built(items):
    """Raise BadItem for the first item that is not built right."""
    for number, item in enumerate(items):
        if not _is_item(item, 0, False):
            raise BadItem(number)


def _is_item(thing, depth, rounded):
    """Tell whether this is an item, with so many parts and rounds around it; rounded: in a round."""
    if not isinstance(thing, tuple) or not thing or not isinstance(thing[0], str):
        return False
    word, size = thing[0], len(thing)
    if word == "ask" and size == 4:
        return _may_define(thing[1], rounded) and is_kind(thing[2]) and is_condition(thing[3])
    if word == "check" and size == 3:
        return _may_define(thing[1], rounded) and is_condition(thing[2])
    if word == "twice" and size == 3:
        return is_full_name(thing[1]) and _may_define(thing[2], rounded)
    if word == "part" and size == 3:
        return is_condition(thing[1]) and _are_items(thing[2], depth + 1, rounded)
    if word == "each" and size == 3 and not rounded:
        return is_full_name(thing[1]) and _are_items(thing[2], depth + 1, True)
    return False


def _may_define(thing, rounded):
    """Tell whether a question or check may be given this name."""
    return is_name(thing) if rounded else is_full_name(thing)


def _are_items(thing, depth, rounded):
    """Tell whether this is a tuple of items, with so many parts and rounds around them."""
    if not isinstance(thing, tuple) or depth > MOST_AROUND:
        return False
    return all([_is_item(item, depth, rounded) for item in thing])


def check_uses(condition, kinds):
    """Raise the first error in how a condition uses questions; kinds has those ahead of it."""
    word = condition[0]
    if word in ("not", "and", "or"):
        for part in condition[1:]:
            check_uses(part, kinds)
    elif word == "sum":
        _check_sum(condition[1], kinds)
    elif word == "same":
        _check_same(condition[1], condition[2], kinds)
    elif word != "always":
        if not _suits(condition, _kind_in(kinds, condition[1])):
            raise BadUse(condition[1])


def _kind_in(kinds, name):
    """Return the kind of a question, or raise that it does not stand ahead."""
    if name not in kinds:
        raise Unknown(name)
    return kinds[name]


def _suits(condition, kind):
    """Tell whether a condition over one question may be over one of this kind."""
    word = condition[0]
    if word == "is":
        return kind[0] != "count" and all([is_answer(kind, answer) for answer in condition[2]])
    if word == "has":
        return kind[0] == "tick" and condition[2] < kind[1]
    if word == "from":
        return kind[0] == "count"
    return True


def _check_sum(names, kinds):
    """Raise the first error in the names of a sum."""
    for at, name in enumerate(names):
        # The digits of a round may have made two names of a sum alike.
        if _kind_in(kinds, name)[0] != "count" or name in names[:at]:
            raise BadUse(name)


def _check_same(first, second, kinds):
    """Raise the first error in the two names of a same."""
    kind = _kind_in(kinds, first)
    if _kind_in(kinds, second) != kind or first == second:
        raise BadUse(second)


def need_within(around, own):
    """Return the need of a question with these conditions around it, none of them always."""
    joined = around if own == ALWAYS else around + (own,)
    if not joined:
        return ALWAYS
    return joined[0] if len(joined) == 1 else ("and",) + joined


def check_within(around, own):
    """Return the condition of a check with these conditions around it, none of them always."""
    if not around:
        return own
    return ("or",) + tuple([("not", condition) for condition in around]) + (own,)


def _deeper(around, condition):
    """Return the conditions around the items of a part or round with this condition."""
    return around if condition == ALWAYS else around + (condition,)


def _fitting(name, condition):
    """Return what was joined, unless it is too long; in all else it is known to be a condition."""
    if not is_condition(condition):
        raise TooLong(name)
    return condition


def _questions_of(items):
    """Return the names of the questions that the items of a round define, in its parts too."""
    names = []
    for item in items:
        if item[0] == "part":
            names.extend(_questions_of(item[2]))
        elif item[0] == "ask":
            names.append(item[1])
        elif item[0] == "twice":
            names.append(item[2])
    return names


def _numbered(items, names, digit):
    """Return the items of a round as they are for one member."""
    return tuple([_numbered_item(item, names, digit) for item in items])


def _numbered_item(item, names, digit):
    """Return an item of a round as it is for one member; names has the round's questions."""
    if item[0] == "ask":
        return ("ask", item[1] + digit, item[2], exchanged(item[3], names))
    if item[0] == "check":
        return ("check", item[1] + digit, exchanged(item[2], names))
    if item[0] == "part":
        return ("part", exchanged(item[1], names), _numbered(item[2], names, digit))
    return ("twice", names.get(item[1], item[1]), item[2] + digit)
