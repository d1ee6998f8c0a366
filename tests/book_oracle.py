"""What the tests know of entries, books and totals by the words of the document alone, and random entries."""

import itertools

from slipleaf.kinds import answers_of
from tests.case_oracle import case_by_words
from tests.oracle import kinds_in
from tests.paper_oracle import contents_of, pages_of

CLERKS = ("a", "ann", "bob", "zoe", "abcdef")


def random_deed(rng, issue, house, record=None):
    """Return a deed for a house; if there is a record, one that is often right for it."""
    form = issue.form
    word = rng.choice(("page", "page", "letter", "note", "note", "strike", "return"))
    if word in ("strike", "return") or not form.names:
        return (rng.choice(("strike", "return", "return")), house)
    right = record is not None and rng.random() < 0.6
    if word == "page":
        page = rng.randint(1, max(issue.pages))
        names = [issue.booklet.rows[row - 1][1] for row in pages_of(issue)[page]]
        contents = []
        for name in names:
            value = record[form.names.index(name)] if right else rng.choice([-1] + contents_of(kinds_in(form)[name]))
            contents.append(-1 if value is None else value)
        return (word, house, page, tuple(contents))
    if word == "letter":
        names = tuple(name for name in form.names if rng.random() < 0.4) or form.names[-1:]
        contents = []
        for name in names:
            value = record[form.names.index(name)] if right else rng.choice([-3] + contents_of(kinds_in(form)[name]))
            contents.append(-3 if value is None else value)
        return (word, house, names, tuple(contents))
    name = rng.choice(form.names)
    value = record[form.names.index(name)] if right else rng.choice((None,) + answers_of(kinds_in(form)[name]))
    return (word, house, name, value)


def random_entries(rng, issue, many, houses=(1, 2, 3, 999), record=None):
    """Return so many entries, or fewer, of which no two have the same clerk and number."""
    told = {}
    for _ in range(many):
        clerk, number = rng.choice(CLERKS), rng.choice((0, 1, 2, 3, 7, 10, 9999))
        deed = random_deed(rng, issue, rng.choice(houses), record)
        told[(clerk, number)] = (clerk, number, rng.choice((0, 1, 2, 5, 10, 999)), deed)
    entries = list(told.values())
    rng.shuffle(entries)
    return entries


def in_order(entries):
    """Return entries by day, then clerk, then number."""
    return sorted(entries, key=lambda entry: (entry[2], entry[0], entry[1]))


def line_by_words(entry):
    """Return the line of an entry, as the words of [59] tell it."""
    clerk, number, day, deed = entry
    words = [clerk, number, day, deed[0], deed[1]]
    if deed[0] == "page":
        words += [deed[2], *deed[3]]
    elif deed[0] == "letter":
        words += itertools.chain(*zip(deed[2], deed[3]))
    elif deed[0] == "note":
        words += [deed[2], "none" if deed[3] is None else deed[3]]
    text = " ".join(map(str, words))
    return "%s =%02d\n" % (text, sum(map(ord, text)) % 97)


def struck_by_words(entries, house):
    """Tell whether a house is struck."""
    words = [entry[3][0] for entry in in_order(entries) if entry[3][1] == house]
    words = [word for word in words if word in ("strike", "return")]
    return bool(words) and words[-1] == "strike"


def papers_told(issue, entries, house):
    """Return what the papers of a house are made of, as the words of [58] tell them."""
    own = [entry[3] for entry in in_order(entries) if entry[3][1] == house]
    told = []
    pages = {deed[2]: deed[3] for deed in own if deed[0] == "page"}
    if pages:
        sheet = []
        for page, rows in pages_of(issue).items():
            sheet += pages.get(page, [None] * len(rows))
        told.append(("sheet", tuple(sheet)))
    letters = {name: content for deed in own if deed[0] == "letter" for name, content in zip(deed[2], deed[3])}
    if letters:
        names = tuple(name for name in issue.form.names if name in letters)
        told.append(("letter", names, tuple(letters[name] for name in names)))
    notes = {deed[2]: deed[3] for deed in own if deed[0] == "note"}
    told += [("note", name, notes[name], 2) for name in issue.form.names if name in notes]
    return told


def state_by_words(issue, entries, house):
    """Return the state of a house."""
    if struck_by_words(entries, house):
        return "struck"
    told = papers_told(issue, entries, house)
    if not told:
        return "none"
    return "sure" if len(case_by_words(issue, told)[1]) == 1 else "open"


def counting_by_words(entries):
    """Return the houses that count."""
    houses = sorted({entry[3][1] for entry in entries})
    return tuple(house for house in houses if not struck_by_words(entries, house))


def open_records(issue, entries, extra=0):
    """Return a dict from the houses that count to the lists of the records of their open groups."""
    return {
        house: case_by_words(issue, papers_told(issue, entries, house), extra)[1] for house in counting_by_words(entries)
    }


def totals_by_words(opened, groups):
    """Return the set of all tuples of the totals of groups (lists of records) in one outcome, going through all."""
    told = [sorted({tuple(record in group for group in groups) for record in records}) for records in opened.values()]
    return {
        tuple(sum(house[at] for house in outcome) for at in range(len(groups))) for outcome in itertools.product(*told)
    }


def settles(differences, houses, chosen):
    """Tell whether these differences, chosen for some houses, settle an ask."""
    rest = [told for house, told in differences.items() if house not in houses]
    sums = {sum(chosen) + sum(outcome) for outcome in itertools.product(*rest)}
    return all(total > 0 for total in sums) or all(total <= 0 for total in sums)


def settling_by_words(differences, surely):
    """Return the fewest houses that can settle an ask, or do so surely, as the words of [63] tell them."""
    for many in range(len(differences) + 1):
        for houses in itertools.combinations(sorted(differences), many):
            ways = itertools.product(*[differences[house] for house in houses])
            if (all if surely else any)(settles(differences, houses, chosen) for chosen in ways):
                return houses
    return None
