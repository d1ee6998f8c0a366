"""What the tests know of papers, cases, lots and trees by the words of the document alone, and random papers."""

import itertools

from slipleaf.kinds import answers_of, slips_between
from slipleaf.papers import Letter, Note, Sheet
from tests.oracle import kinds_in, lawful_records, sorted_values
from tests.paper_oracle import contents_of, random_sheet, right_by_words, slips_by_words


def letter_slips(form, names, contents, record):
    """Return the slips of a record on a letter, as the words of [44] tell them."""
    total = 0
    for name, content in zip(names, contents):
        value = record[form.names.index(name)]
        if value is None:
            total += 0 if content == -3 else 1
        else:
            total += 1 if content == -3 else slips_between(kinds_in(form)[name], value, content)
    return total


def note_slips(form, name, value, weight, record):
    """Return the slips of a record on a note."""
    return 0 if record[form.names.index(name)] == value else weight


def slips_told(issue, told, record):
    """Return the slips of a record on papers that are told as tuples of a word and what they are made of."""
    total = 0
    for word, *parts in told:
        if word == "sheet":
            total += slips_by_words(issue, record, *parts)
        elif word == "letter":
            total += letter_slips(issue.form, *parts, record)
        else:
            total += note_slips(issue.form, *parts, record)
    return total


def made_paper(issue, told):
    """Return the paper that is told so."""
    if told[0] == "sheet":
        return Sheet(issue, told[1])
    return {"letter": Letter, "note": Note}[told[0]](issue.form, *told[1:])


def random_told(rng, issue, record=None):
    """Return what a random paper is made of; if there is a record, one that is often right for it."""
    form = issue.form
    word = rng.choice(("sheet", "letter", "note"))
    right = record is not None and rng.random() < 0.6
    if word == "sheet":
        return (word, right_by_words(issue, record) if right else random_sheet(rng, issue))
    if word == "letter" or not form.names:
        names = tuple(name for name in form.names if rng.random() < 0.5)
        contents = []
        for name in names:
            value = record[form.names.index(name)] if right else rng.choice([-3] + contents_of(kinds_in(form)[name]))
            contents.append(-3 if value is None else value)
        return ("letter", names, tuple(contents))
    name = rng.choice(form.names)
    value = record[form.names.index(name)] if right else rng.choice((None,) + answers_of(kinds_in(form)[name]))
    return (word, name, value, rng.choice((1, 2, 2, 3, 9)))


def case_by_words(issue, told, extra=0):
    """Return the fewest slips in a case, and the list of the records with at most so many more."""
    slips = {record: slips_told(issue, told, record) for record in lawful_records(issue.form)}
    fewest = min(slips.values())
    return fewest, [record for record in slips if slips[record] <= fewest + extra]


def lot_by_words(form, records):
    """Return the fewest lot, as the words of [47] tell it."""
    for many in range(len(form.names) + 1):
        for places in itertools.combinations(range(len(form.names)), many):
            if len({tuple(record[place] for place in places) for record in records}) == len(records):
                return tuple(form.names[place] for place in places)


def depth_by_words(form, records, known):
    """Return the least depth of any tree for some records."""
    key = frozenset(records)
    if key not in known:
        known[key] = 0 if len(records) == 1 else min(
            1 + max(depth_by_words(form, part, known) for part in branches_of(records, place).values())
            for place in range(len(form.names)) if len(branches_of(records, place)) > 1
        )
    return known[key]


def branches_of(records, place):
    """Return a dict from each value at a place, in order, to the records that have it."""
    return {
        value: [record for record in records if record[place] == value]
        for value in sorted_values(record[place] for record in records)
    }


def tree_by_words(form, records, known):
    """Return the shallowest tree, as the words of [48] tell it."""
    if len(records) == 1:
        return ("is", records[0])
    for place, name in enumerate(form.names):
        told = branches_of(records, place)
        if len(told) > 1:
            depth = 1 + max(depth_by_words(form, part, known) for part in told.values())
            if depth == depth_by_words(form, records, known):
                branches = tuple((value, tree_by_words(form, part, known)) for value, part in told.items())
                return ("ask", name, branches)


