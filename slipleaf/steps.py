"""Steps: a form changed in one way, and the persons who are linked to a person by it.

The functions is_step and taken are for the other files.
"""

from slipleaf.bounds import is_within
from slipleaf.conditions import MOST_WORDS, all_names, is_condition, is_full_name, words_within
from slipleaf.crowds import crowd_behind, crowd_of
from slipleaf.errors import (
    BadAnswer, BadCondition, BadKind, BadName, BadNumber, BadStep, BadUse, Needed, TooLong, Twice, Unknown,
)
from slipleaf.forms import Form
from slipleaf.kinds import is_answer, is_kind
from slipleaf.orders import ordered
from slipleaf.records import check_person
from slipleaf.rounds import check_uses
from slipleaf.turns import answers_behind, plain_parts, turned

# What stands behind the word of each step; a thing may be anything.
SHAPES = {
    "rename": ("name", "name"), "move": ("names",), "drop": ("name",), "add": ("number", "name", "thing", "thing"),
    "split": ("name", "number", "number"), "join": ("name", "number", "number"), "bound": ("name", "number", "number"),
    "need": ("name", "thing"), "pair": ("name", "name", "name"), "divide": ("name", "name", "name", "number"),
    "check": ("name", "thing"), "uncheck": ("name",),
}
MOST_BOXES = 6


def stepped(form, step):
    """Return the form that comes out of a step."""
    if not is_step(step):
        raise BadStep(0)
    return taken(form, step)


def linked(form, step, person):
    """Tell all persons of the form that comes out who are linked to a person, ascending."""
    stepped(form, step)
    check_person(form, person)
    crowd = crowd_of([[(0, (answer,))] for answer in person])
    for other in crowd_behind(crowd, form, step).persons():
        yield other


def is_step(thing):
    """Tell whether this has the length and the words of a step."""
    if not isinstance(thing, tuple) or not thing or not isinstance(thing[0], str) or thing[0] not in SHAPES:
        return False
    shape = SHAPES[thing[0]]
    return len(thing) == len(shape) + 1 and all([_has_shape(part, word) for part, word in zip(thing[1:], shape)])


def _has_shape(thing, word):
    """Tell whether this is a name, a number, a tuple of names, or anything."""
    if word == "name":
        return isinstance(thing, str)
    if word == "number":
        return isinstance(thing, int) and not isinstance(thing, bool)
    if word == "names":
        return isinstance(thing, tuple) and all([isinstance(name, str) for name in thing])
    return True


def taken(form, step):
    """Return the form that comes out of what has the shape of a step."""
    word = step[0]
    if word == "move":
        return ordered(form, step[1])
    if word == "add":
        items = _with_question(form, step)
    elif word == "check":
        items = _with_check(form, step)
    elif word in ("drop", "uncheck"):
        items = _with_less(form, step)
    elif word in ("split", "join", "bound"):
        items = _with_other_answers(form, step)
    elif word == "rename":
        items = _renamed_items(form, step)
    elif word == "need":
        items = _with_need(form, step)
    elif word == "pair":
        items = _paired(form, step)
    else:
        items = _divided(form, step)
    for item in items:
        if words_within(item[-1], MOST_WORDS) == 0:
            raise TooLong(item[1])
    return Form(items)


def _with_question(form, step):
    """Return the flat source with one more question."""
    _, place, name, kind, condition = step
    form.check_place(place)
    _demand_name(name)
    if not is_kind(kind):
        raise BadKind()
    _demand_condition(form, place, condition)
    if name in form:
        raise Twice(name)
    items = list(form.flat)
    # The checks of its place stand ahead of the question that has it.
    at = items.index(_asking(form, place)) if place < len(form) else len(items)
    return items[:at] + [("ask", name, kind, condition)] + items[at:]


def _with_check(form, step):
    """Return the flat source with one more check at the end."""
    _, name, condition = step
    _demand_name(name)
    _demand_condition(form, len(form), condition)
    if name in _checked(form):
        raise Twice(name)
    return list(form.flat) + [("check", name, condition)]


def _with_less(form, step):
    """Return the flat source without a question or a check."""
    word, name = step
    if word == "uncheck":
        if name not in _checked(form):
            raise Unknown(name)
        return [item for item in form.flat if item[:2] != ("check", name)]
    form.place_of(name)
    if name in [other for item in form.flat for other in all_names(item[-1])]:
        raise Needed(name)
    return [item for item in form.flat if item[:2] != ("ask", name)]


def _renamed_items(form, step):
    """Return the flat source with another name for a question."""
    _, name, new = step
    own = _asking(form, form.place_of(name))
    _demand_name(new)
    if new in form:
        raise Twice(new)
    return _turned_items(form, {name: [("ask", new) + own[2:]]}, {name: new}, {})


def _with_need(form, step):
    """Return the flat source with another need for a question."""
    _, name, condition = step
    place = form.place_of(name)
    _demand_condition(form, place, condition)
    own = _asking(form, place)
    return _turned_items(form, {name: [own[:3] + (condition,)]}, {}, {})


def _with_other_answers(form, step):
    """Return the flat source with a question whose answers are split or joined, or have other bounds."""
    word, name = step[0], step[1]
    kind = form.kind_of(name)
    _demand_word(name, kind, "count" if word == "bound" else "pick")
    if word == "split":
        new = _split_kind(step, kind)
    elif word == "join":
        new = _joined_kind(form, step, kind)
    else:
        new = ("count", step[2], step[3])
        if not is_kind(new):
            raise BadKind()
    _demand_no_same(form, (name,), name)
    own = _asking(form, form.place_of(name))
    answers = {} if word == "bound" else {name: answers_behind(kind, step)}
    return _turned_items(form, {name: [("ask", name, new, own[3])]}, {}, answers)


def _split_kind(step, kind):
    """Return the kind of a question whose one answer becomes several."""
    _, name, answer, parts = step
    if not is_answer(kind, answer):
        raise BadAnswer(name)
    if not is_within(parts, 2, MOST_BOXES + 1 - kind[1]):
        raise BadNumber(parts)
    return ("pick", kind[1] + parts - 1)


def _joined_kind(form, step, kind):
    """Return the kind of a question of which several answers become one."""
    _, name, first, last = step
    if not 0 <= first < last < kind[1] or kind[1] - (last - first) < 2:
        raise BadAnswer(name)
    for plain in _all_plain(form):
        if plain[0] == "is" and plain[1] == name:
            among = [answer for answer in plain[2] if first <= answer <= last]
            if among and len(among) < last - first + 1:
                raise Needed(name)
    return ("pick", kind[1] - (last - first))


def _paired(form, step):
    """Return the flat source in which two questions have become one."""
    _, first, second, name = step
    place, beside = form.place_of(first), form.place_of(second)
    kind, other = form.kind_of(first), form.kind_of(second)
    _demand_word(first, kind, "pick")
    _demand_word(second, other, "pick")
    many = other[1]
    if beside != place + 1 or form.need_of(second) != form.need_of(first) or kind[1] * many > MOST_BOXES:
        raise BadUse(second)
    if beside in [check[1] for check in form.checks]:
        raise BadUse(second)
    _demand_name(name)
    if name in form and name not in (first, second):
        raise Twice(name)
    _demand_no_same(form, (first, second), first)
    own = _asking(form, place)
    quotients = {answer: [answer * many + low for low in range(many)] for answer in range(kind[1])}
    remainders = {answer: [high * many + answer for high in range(kind[1])] for answer in range(many)}
    new = ("ask", name, ("pick", kind[1] * many), own[3])
    return _turned_items(
        form, {first: [new], second: []}, {first: name, second: name},
        {first: quotients, second: remainders},
    )


def _divided(form, step):
    """Return the flat source in which a question has become two."""
    _, name, first, second, many = step
    kind = form.kind_of(name)
    _demand_word(name, kind, "pick")
    if many not in (2, 3) or kind[1] % many != 0 or kind[1] // many < 2:
        raise BadNumber(many)
    _demand_name(first)
    _demand_name(second)
    if first in form and first != name:
        raise Twice(first)
    if (second in form and second != name) or second == first:
        raise Twice(second)
    if name in [other for plain in _all_plain(form) if plain[0] != "asked" for other in all_names(plain)]:
        raise Needed(name)
    own = _asking(form, form.place_of(name))
    new = [("ask", first, ("pick", kind[1] // many), own[3]), ("ask", second, ("pick", many), own[3])]
    return _turned_items(form, {name: new}, {name: first}, {})


def _asking(form, place):
    """Return the item of the flat source that asks the question at a place."""
    return ("ask",) + form.questions[place]


def _checked(form):
    """Return the list of the names of the checks."""
    return [check[0] for check in form.checks]


def _turned_items(form, instead, names, answers):
    """Return the flat source with other names and other answers in all conditions.

    instead: a dict from names of questions to the items that stand there instead.
    """
    items = []
    for item in form.flat:
        items.extend(instead.get(item[1], [item]) if item[0] == "ask" else [item])
    return [item[:-1] + (turned(item[-1], names, answers),) for item in items]


def _all_plain(form):
    """Return the list of the conditions in all needs and checks that contain no others."""
    return [plain for item in form.flat for plain in plain_parts(item[-1])]


def _demand_name(name):
    """Raise BadName if this is no full name."""
    if not is_full_name(name):
        raise BadName(name)


def _demand_condition(form, place, condition):
    """Raise BadCondition, or what is wrong in how a condition uses the questions ahead of a place."""
    if not is_condition(condition):
        raise BadCondition()
    check_uses(condition, {name: kind for name, kind, _ in form.questions[:place]})


def _demand_word(name, kind, word):
    """Raise BadUse if a question is of another kind."""
    if kind[0] != word:
        raise BadUse(name)


def _demand_no_same(form, names, told):
    """Raise Needed, with the name that is told, if a `same` names one of these questions."""
    for plain in _all_plain(form):
        if plain[0] == "same" and (plain[1] in names or plain[2] in names):
            raise Needed(told)
