"""What the tests know by the words of the document alone, by going through all records."""

import random

from slipleaf.conditions import holds
from slipleaf.forms import Form
from slipleaf.kinds import answers_of
from tests.helper import ALWAYS

KINDS = (("pick", 2), ("pick", 3), ("tick", 2), ("count", 0, 2), ("count", 1, 3))
LETTERS = "abcdefghij"


def random_condition(rng, kinds, depth=2):
    """Return a condition over questions; kinds is a dict from their names to their kinds."""
    names = list(kinds)
    if not names or rng.random() < 0.08:
        return ALWAYS
    if depth and rng.random() < 0.5:
        word = rng.choice(("not", "and", "or"))
        parts = 1 if word == "not" else rng.choice((2, 2, 3))
        return (word,) + tuple(random_condition(rng, kinds, depth - 1) for _ in range(parts))
    name = rng.choice(names)
    kind = kinds[name]
    alike = [other for other in names if other != name and kinds[other] == kind]
    counts = [other for other in names if kinds[other][0] == "count"]
    low = rng.randint(0, 5)
    words = ["asked"] + ["same"] * bool(alike) + ["sum"] * bool(counts)
    words += {"pick": ["is", "is"], "tick": ["is", "has"], "count": ["from", "from"]}[kind[0]]
    word = rng.choice(words)
    if word == "asked":
        return (word, name)
    if word == "same":
        return (word, name, rng.choice(alike))
    if word == "sum":
        summed = rng.sample(counts, rng.randint(1, min(3, len(counts))))
        return (word, tuple(summed), low, low + rng.randint(0, 4))
    if word == "has":
        return (word, name, rng.randrange(kind[1]))
    if word == "from":
        return (word, name, low, low + rng.randint(0, 2))
    answers = answers_of(kind)
    return (word, name, tuple(sorted(rng.sample(answers, rng.randint(1, min(3, len(answers)))))))


def random_form(rng, many=None, kinds=None):
    """Return a form with so many questions, of these kinds, and some checks."""
    many = rng.randint(0, 5) if many is None else many
    told, items, checks = {}, [], 0
    for place in range(many + 1):
        for _ in range(rng.choice((0, 0, 0, 0, 1) if place < many else (0, 1, 2))):
            items.append(("check", "c" + LETTERS[checks], random_condition(rng, told)))
            checks += 1
        if place < many:
            kind = kinds[place] if kinds else rng.choice(KINDS)
            need = random_condition(rng, told) if rng.random() < 0.6 else ALWAYS
            items.append(("ask", LETTERS[place], kind, need))
            told[LETTERS[place]] = kind
    return Form(items)


def kinds_in(form):
    """Return a dict from the names of the questions to their kinds."""
    return {name: kind for name, kind, _ in form.questions}


def values_of(form, record):
    """Return a dict from names to values, as far as the values go."""
    return dict(zip(form.names, record))


def all_records(form):
    """Return the list of all records, in order."""
    found = [()]
    for _, kind, need in form.questions:
        found = [
            record + (value,) for record in found
            for value in (answers_of(kind) if holds(need, values_of(form, record)) else (None,))
        ]
    return found


def holding(form, condition):
    """Return the list of the records for which a condition holds, in order."""
    return [record for record in all_records(form) if holds(condition, values_of(form, record))]


def failing(form, record):
    """Return the names of the checks that fail for a record."""
    return [name for name, _, condition in form.checks if not holds(condition, values_of(form, record))]


def lawful_records(form):
    """Return the list of all lawful records, in order."""
    return [record for record in all_records(form) if not failing(form, record)]


def rest_of(records, beginning):
    """Return the rest of a beginning."""
    many = len(beginning)
    return frozenset(record[many:] for record in records if record[:many] == beginning)


def sorted_values(values):
    """Return the different values, None first, then ascending."""
    return tuple(sorted(set(values), key=lambda value: -1 if value is None else value))


def table_by_words(form, records):
    """Return the table of a group, as the words of [16] and [17] tell it; records in order."""
    rests = []
    for place in range(len(form) + 1):
        told = {}
        for record in records:
            told.setdefault(rest_of(records, record[:place]), record[:place])
        rests.append(told)
    table = []
    for place, told in enumerate(rests):
        onward = list(rests[place + 1]) if place < len(form) else []
        row = []
        for rest, beginning in told.items():
            values = sorted_values(more[0] for more in rest if more)
            row.append(tuple((value, onward.index(rest_of(records, beginning + (value,)))) for value in values))
        table.append(tuple(row))
    return tuple(table)


def next_asked(form, values):
    """Return the name of the next question that is asked, or None, and the values ahead of it."""
    for name, _, need in form.questions[len(values):]:
        if holds(need, values_of(form, values)):
            return name, values
        values += (None,)
    return None, values


def parting_by_words(first, second):
    """Return the parting of two forms, as the words of [19] tell it."""
    moments = [((), (), ())]
    while moments:
        further = []
        for answers, here, there in moments:
            name, here = next_asked(first, here)
            other, there = next_asked(second, there)
            if name != other:
                return ("asks", answers, name, other)
            if name is not None:
                for answer in answers_of(first.kind_of(name)):
                    further.append((answers + (answer,), here + (answer,), there + (answer,)))
        moments = further
    for record in all_records(first):
        if bool(failing(first, record)) != bool(failing(second, record)):
            return ("checks", record)
    return None


def seeded(count):
    """Return so many generators of random numbers, the same ones in each run."""
    return [random.Random(seed) for seed in range(count)]
