"""What the tests know of steps and links by the words of the document alone, and random steps."""

import itertools

from slipleaf.conditions import is_condition, is_full_name, names_in
from slipleaf.errors import (
    BadAnswer, BadCondition, BadKind, BadName, BadNumber, BadOrder, BadStep, BadUse, LeafError, Needed, TooLong, Twice,
    Unknown,
)
from slipleaf.forms import Form
from slipleaf.kinds import answers_of, is_kind
from tests.helper import ALWAYS
from tests.oracle import kinds_in, random_condition

NEW_KINDS = (
    ("pick", 2), ("pick", 2), ("pick", 2), ("pick", 3), ("pick", 4), ("pick", 6), ("tick", 2), ("count", 0, 2), ("count", 1, 3),
)
STEP_WORDS = (
    "rename", "move", "drop", "add", "split", "join", "bound", "need", "pair", "divide", "check", "uncheck",
)


def parts_of(condition):
    """Tell all conditions in a condition, itself too."""
    yield condition
    if condition[0] in ("not", "and", "or"):
        for part in condition[1:]:
            yield from parts_of(part)


def changed(condition, change):
    """Return a condition in which each plain one is exchanged by a function."""
    if condition[0] in ("not", "and", "or"):
        return (condition[0],) + tuple(changed(part, change) for part in condition[1:])
    return change(condition)


def use_error(form, place, condition):
    """Return the first error of a condition with the questions ahead of a place, or None."""
    flat = [("ask", name, kind, ALWAYS) for name, kind, _ in form.questions[:place]]
    if not is_condition(condition):
        return BadCondition()
    try:
        Form(flat + [("check", "zz", condition)])
    except LeafError as error:
        # A form of these questions alone may be too much, but that is no error of the condition.
        return error if isinstance(error, (Unknown, BadUse)) else None
    return None


class Work:
    """The questions and checks of a form as lists that a step changes."""

    def __init__(self, form):
        self.form = form
        self.questions = [list(question) for question in form.questions]
        self.checks = [list(check) for check in form.checks]

    def conditions(self):
        """Return all needs and conditions of checks."""
        return [question[2] for question in self.questions] + [check[2] for check in self.checks]

    def change(self, change):
        """Exchange all plain conditions by a function."""
        for question in self.questions:
            question[2] = changed(question[2], change)
        for check in self.checks:
            check[2] = changed(check[2], change)

    def plain(self):
        """Return all conditions within the conditions, of every depth."""
        return [part for condition in self.conditions() for part in parts_of(condition)]

    def same_names(self):
        """Return all names that a `same` names."""
        return [name for part in self.plain() if part[0] == "same" for name in part[1:]]

    def made(self):
        """Return the form, or what is too much of it."""
        flat = []
        for place in range(len(self.questions) + 1):
            flat += [("check", name, condition) for name, at, condition in self.checks if at == place]
            flat += [("ask", *question) for question in self.questions[place:place + 1]]
        for item in flat:
            if not is_condition(item[-1]):
                return TooLong(item[1])
        try:
            return Form(flat)
        except LeafError as error:
            return error


def step_by_words(form, step):
    """Return the form that comes out of a step, or the error that is due."""
    if not shaped(step):
        return BadStep(0)
    work = Work(form)
    error = globals()["by_" + step[0]](work, form, *step[1:])
    return error if error else work.made()


def shaped(step):
    """Tell whether this has the shape of a step."""
    shapes = {
        "rename": "ss", "move": "m", "drop": "s", "add": "isxx", "split": "sii", "join": "sii", "bound": "sii",
        "need": "sx", "pair": "sss", "divide": "sssi", "check": "sx", "uncheck": "s",
    }
    if type(step) is not tuple or not step or type(step[0]) is not str or step[0] not in shapes:
        return False
    told = {
        "s": lambda thing: type(thing) is str, "i": lambda thing: type(thing) is int, "x": lambda thing: True,
        "m": lambda thing: type(thing) is tuple and all(type(name) is str for name in thing),
    }
    shape = shapes[step[0]]
    return len(step) == len(shape) + 1 and all(told[word](thing) for word, thing in zip(shape, step[1:]))


def swapped(names):
    """Return a function that exchanges names in a plain condition."""
    def swap(condition):
        return tuple(
            tuple(names.get(name, name) for name in part) if condition[0] == "sum" and at == 1
            else names.get(part, part) if at and isinstance(part, str) else part
            for at, part in enumerate(condition)
        )
    return swap


def by_rename(work, form, q, r):
    if q not in form.names:
        return Unknown(q)
    if not is_full_name(r):
        return BadName(r)
    if r in form.names:
        return Twice(r)
    work.questions[form.names.index(q)][0] = r
    work.change(swapped({q: r}))


def by_move(work, form, names):
    seen = []
    for name in names:
        if name not in form.names or name in seen:
            return BadOrder(name)
        if not set(names_in(form.questions[form.names.index(name)][2])) <= set(seen):
            return BadOrder(name)
        seen.append(name)
    for name in form.names:
        if name not in seen:
            return BadOrder(name)
    work.questions = [work.questions[form.names.index(name)] for name in names]
    for check in work.checks:
        check[1] = max([seen.index(name) + 1 for name in names_in(check[2])], default=0)


def by_drop(work, form, q):
    if q not in form.names:
        return Unknown(q)
    if any(q in names_in(condition) for condition in work.conditions()):
        return Needed(q)
    place = form.names.index(q)
    del work.questions[place]
    for check in work.checks:
        check[1] -= check[1] > place


def by_add(work, form, place, q, kind, condition):
    if not 0 <= place <= len(form.names):
        return BadNumber(place)
    if not is_full_name(q):
        return BadName(q)
    if not is_kind(kind):
        return BadKind()
    error = use_error(form, place, condition)
    if error:
        return error
    if q in form.names:
        return Twice(q)
    work.questions.insert(place, [q, kind, condition])
    for check in work.checks:
        check[1] += check[1] > place


def picked(form, name):
    """Return the error of a question that should be a pick, or None."""
    if name not in form.names:
        return Unknown(name)
    if form.questions[form.names.index(name)][1][0] != "pick":
        return BadUse(name)


def answered(names):
    """Return a function that exchanges the answers of each `is`; names: dicts from answers to lists by names."""
    def answer(condition):
        if condition[0] == "is" and condition[1] in names:
            told = names[condition[1]]
            return ("is", condition[1], tuple(sorted({new for old in condition[2] for new in told[old]})))
        return condition
    return answer


def split_table(n, answer, parts):
    """Return what each answer becomes when one is split."""
    return {
        old: [old] if old < answer else list(range(answer, answer + parts)) if old == answer else [old + parts - 1]
        for old in range(n)
    }


def join_table(n, first, last):
    """Return what each answer becomes when some are joined."""
    return {old: [old] if old < first else [first] if old <= last else [old - (last - first)] for old in range(n)}


def by_split(work, form, q, answer, parts):
    error = picked(form, q)
    if error:
        return error
    question = work.questions[form.names.index(q)]
    n = question[1][1]
    if answer not in range(n):
        return BadAnswer(q)
    if parts < 2 or n + parts - 1 > 6:
        return BadNumber(parts)
    if q in work.same_names():
        return Needed(q)
    question[1] = ("pick", n + parts - 1)
    work.change(answered({q: split_table(n, answer, parts)}))


def by_join(work, form, q, first, last):
    error = picked(form, q)
    if error:
        return error
    question = work.questions[form.names.index(q)]
    n = question[1][1]
    if not 0 <= first < last <= n - 1 or n - (last - first) < 2:
        return BadAnswer(q)
    for part in work.plain():
        if part[0] == "is" and part[1] == q:
            if 0 < len(set(part[2]) & set(range(first, last + 1))) <= last - first:
                return Needed(q)
    if q in work.same_names():
        return Needed(q)
    question[1] = ("pick", n - (last - first))
    work.change(answered({q: join_table(n, first, last)}))


def by_bound(work, form, q, low, high):
    if q not in form.names:
        return Unknown(q)
    question = work.questions[form.names.index(q)]
    if question[1][0] != "count":
        return BadUse(q)
    if not 0 <= low < high <= 99:
        return BadKind()
    if q in work.same_names():
        return Needed(q)
    question[1] = ("count", low, high)


def by_need(work, form, q, condition):
    if q not in form.names:
        return Unknown(q)
    error = use_error(form, form.names.index(q), condition)
    if error:
        return error
    work.questions[form.names.index(q)][2] = condition


def by_pair(work, form, q, r, s):
    for name in (q, r):
        if name not in form.names:
            return Unknown(name)
    for name in (q, r):
        if picked(form, name):
            return BadUse(name)
    at, beside = form.names.index(q), form.names.index(r)
    one, other = work.questions[at], work.questions[beside]
    n, m = one[1][1], other[1][1]
    if beside != at + 1 or one[2] != other[2] or n * m > 6 or any(check[1] == beside for check in work.checks):
        return BadUse(r)
    if not is_full_name(s):
        return BadName(s)
    if s in form.names and s not in (q, r):
        return Twice(s)
    if {q, r} & set(work.same_names()):
        return Needed(q)
    work.change(answered({
        q: {a: [a * m + b for b in range(m)] for a in range(n)}, r: {b: [a * m + b for a in range(n)] for b in range(m)},
    }))
    work.change(swapped({q: s, r: s}))
    work.questions[at:at + 2] = [[s, ("pick", n * m), work.questions[at][2]]]
    for check in work.checks:
        check[1] -= check[1] > at


def by_divide(work, form, s, q, r, m):
    error = picked(form, s)
    if error:
        return error
    at = form.names.index(s)
    n = work.questions[at][1][1]
    if m not in (2, 3) or n % m or n // m < 2:
        return BadNumber(m)
    for name in (q, r):
        if not is_full_name(name):
            return BadName(name)
    if q != s and q in form.names:
        return Twice(q)
    if (r != s and r in form.names) or r == q:
        return Twice(r)
    for part in work.plain():
        if part[0] in ("is", "has", "from", "same", "sum") and s in names_in(part):
            return Needed(s)
    need = work.questions[at][2]
    work.questions[at:at + 1] = [[q, ("pick", n // m), need], [r, ("pick", m), need]]
    work.change(swapped({s: q}))
    for check in work.checks:
        check[1] += check[1] > at


def by_check(work, form, name, condition):
    if not is_full_name(name):
        return BadName(name)
    error = use_error(form, len(form.names), condition)
    if error:
        return error
    if name in [check[0] for check in work.checks]:
        return Twice(name)
    work.checks.append([name, len(form.names), condition])


def by_uncheck(work, form, name):
    if name not in [check[0] for check in work.checks]:
        return Unknown(name)
    work.checks = [check for check in work.checks if check[0] != name]


def linked_by_words(form, step, person, new=None):
    """Return the list of all persons who are linked to a person by a step that can be taken, ascending."""
    told, word = dict(zip(form.names, person)), step[0]
    new = new or step_by_words(form, step)
    choices = []
    for name, kind, _ in new.questions:
        old = {step[2]: step[1]}.get(name, name) if word == "rename" else name
        choices.append([told[old]] if old in told else list(answers_of(kind)))
    at = new.names.index(step[1]) if word in ("split", "join", "bound") else None
    if at is not None:
        kind = dict((name, kind) for name, kind, _ in form.questions)[step[1]]
        if word == "bound":
            choices[at] = [answer for answer in choices[at] if step[2] <= answer <= step[3]]
        else:
            table = (split_table if word == "split" else join_table)(kind[1], *step[2:])
            choices[at] = table[told[step[1]]]
    if word == "pair":
        m = dict((name, kind) for name, kind, _ in form.questions)[step[2]][1]
        choices[new.names.index(step[3])] = [told[step[1]] * m + told[step[2]]]
    if word == "divide":
        choices[new.names.index(step[2])] = [told[step[1]] // step[4]]
        choices[new.names.index(step[3])] = [told[step[1]] % step[4]]
    return list(itertools.product(*choices))


def easy_form(rng, many=None):
    """Return a form in which most questions stand by themselves, so that most steps can be taken."""
    told, items, need = {}, [], ALWAYS
    for name in "abcde"[:rng.randint(0, 4) if many is None else many]:
        if rng.random() < 0.12:
            items.append(("check", "c" + name, random_condition(rng, told, 1)))
        kind = rng.choice(NEW_KINDS)
        need = need if rng.random() < 0.6 else random_condition(rng, told, 1)
        items.append(("ask", name, kind, need))
        told[name] = kind
    for number in range(rng.choice((0, 0, 1, 2))):
        items.append(("check", "cf"[number], random_condition(rng, told, 1)))
    return Form(items)


def random_step(rng, form, word=None):
    """Return a step for a form, mostly one that can be taken."""
    word = word or rng.choice(STEP_WORDS)
    names = list(form.names) or ["a"]
    kinds = kinds_in(form)
    free = [name for name in ("k", "l", "m", "n", "o") if name not in form.names]
    q = rng.choice(names)
    picks = [name for name in names if kinds.get(name, ("none",))[0] == "pick"] or names
    if word == "rename":
        return (word, q, rng.choice(free + names[:1]))
    if word == "move":
        left, order = list(form.names), []
        while left:
            open_now = [
                name for name in left if set(names_in(form.need_of(name))) <= set(order)
            ]
            order.append(rng.choice(open_now if rng.random() < 0.97 else left))
            left.remove(order[-1])
        return (word, tuple(order))
    if word == "add":
        place = rng.randint(0, len(form))
        told = {name: kinds[name] for name in form.names[:place]}
        condition = random_condition(rng, told) if rng.random() < 0.6 else ALWAYS
        return (word, place, rng.choice(free + names[:1]), rng.choice(NEW_KINDS), condition)
    if word == "drop":
        named = {other for item in form.flat for other in names_in(item[-1])}
        return (word, rng.choice([name for name in names if name not in named or rng.random() < 0.1] or names))
    if word == "split":
        return (word, rng.choice(picks), rng.randint(0, 3), rng.randint(1, 3))
    if word == "join":
        low = rng.randint(0, 2)
        return (word, rng.choice(picks), low, low + rng.randint(0 if rng.random() < 0.2 else 1, 2))
    if word == "bound":
        q = rng.choice([name for name in names if kinds.get(name, ("none",))[0] == "count"] or names)
        low = rng.randint(0, 3)
        return (word, q, low, low + rng.randint(0, 4))
    if word == "need":
        told = {name: kinds[name] for name in form.names[:form.names.index(q) if form.names else 0]}
        return (word, q, random_condition(rng, told))
    if word == "pair":
        pairs = [(name, other) for name, other in zip(names, names[1:]) if {name, other} <= set(picks)]
        good = [pair for pair in pairs if kinds and kinds[pair[0]][1] * kinds[pair[1]][1] <= 6]
        return (word, *rng.choice(good or pairs or [(q, q)]), rng.choice(free + names))
    if word == "divide":
        large = [name for name in picks if kinds.get(name, (0, 0))[1] in (4, 6)]
        return (word, rng.choice(large or picks), rng.choice(free + names[:1]), rng.choice(free + names[:1]), rng.choice((1, 2, 2, 3)))
    checks = [check[0] for check in form.checks]
    if word == "check":
        return (word, rng.choice(["t", "u", "v"] + checks), random_condition(rng, kinds))
    return (word, rng.choice(checks + ["t"]))
