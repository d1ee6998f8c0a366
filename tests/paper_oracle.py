"""What the tests know of booklets, sheets and prints by the words of the document alone."""

import itertools

from slipleaf.conditions import holds
from slipleaf.kinds import answers_of, is_content, slips_between
from tests.oracle import all_records, lawful_records, values_of


def all_persons(form):
    """Return all persons of a form."""
    return list(itertools.product(*[answers_of(kind) for _, kind, _ in form.questions]))


def walked(form, person):
    """Return the names that the walk of a person asks, in order, and the person's record."""
    record = ()
    for (_, _, need), answer in zip(form.questions, person):
        record += (answer if holds(need, values_of(form, record)) else None,)
    return [name for name, value in zip(form.names, record) if value is not None], record


def person_with(form, record):
    """Return the person with the answers of a record, and the least answer at each other question."""
    return tuple(
        answers_of(kind)[0] if value is None else value for (_, kind, _), value in zip(form.questions, record)
    )


def steps_of(booklet, person):
    """Return the pairs of a row's number and the name that it asks (None if it looks) on the way of a person."""
    steps, told, number = [], {}, 1
    while number <= len(booklet.rows):
        row = booklet.rows[number - 1]
        answer = person[booklet.form.place_of(row[1])]
        spot = answers_of(booklet.form.kind_of(row[1])).index(answer)
        steps.append((number, row[1] if row[0] == "ask" else None))
        number = row[2] if row[0] == "look" and row[1] not in told else row[-1][spot]
        if row[0] == "ask":
            told[row[1]] = answer
    return steps


def fault_by_words(booklet):
    """Return the fault of a booklet, as the words of [22] tell it."""
    form, found = booklet.form, []
    for person in all_persons(form):
        wanted, _ = walked(form, person)
        answers, wrong = (), None
        for number, name in steps_of(booklet, person):
            if name is None:
                continue
            if len(answers) == len(wanted) or wanted[len(answers)] != name:
                wrong = number
                break
            answers += (person[form.place_of(name)],)
        if wrong is None and len(answers) < len(wanted):
            wrong = booklet.end
        if wrong is not None:
            found.append((len(answers), answers, wrong))
    return min(found)[1:] if found else None


def due_by_words(booklet, record):
    """Return the numbers of the rows that ask on the way of a person with this record."""
    steps = steps_of(booklet, person_with(booklet.form, record))
    return [number for number, name in steps if name is not None]


def pages_of(issue):
    """Return a dict from each page to the list of its rows."""
    told = {}
    for row, page in enumerate(issue.pages, start=1):
        told.setdefault(page, []).append(row)
    return told


def is_filled(content):
    """Tell whether a row with this element is filled."""
    return content not in (None, -1)


def empty_by_words(issue, sheet):
    """Return the empty pages of a sheet."""
    return [
        page for page, rows in pages_of(issue).items()
        if sheet[rows[0] - 1] is not None and not any(is_filled(sheet[row - 1]) for row in rows)
    ]


def gaps_by_words(issue, record, sheet):
    """Return how many gaps of a record have a filled row."""
    due = due_by_words(issue.booklet, record)
    gaps = [range(row + 1, onward) for row, onward in zip(due, due[1:] + [issue.booklet.end])]
    return sum(any(is_filled(sheet[row - 1]) for row in gap) for gap in gaps)


def slips_by_words(issue, record, sheet):
    """Return the slips of a record on a sheet, as the words of [39] tell them."""
    form, empty = issue.form, empty_by_words(issue, sheet)
    due = due_by_words(issue.booklet, record)
    total = gaps_by_words(issue, record, sheet)
    total += len({issue.pages[row - 1] for row in due if issue.pages[row - 1] in empty})
    for row in due:
        if sheet[row - 1] is not None and issue.pages[row - 1] not in empty:
            name = issue.booklet.rows[row - 1][1]
            total += slips_between(form.kind_of(name), record[form.place_of(name)], sheet[row - 1])
    return total


def right_by_words(issue, record):
    """Return the right sheet of a record."""
    due = due_by_words(issue.booklet, record)
    return tuple(
        record[issue.form.place_of(row[1])] if number in due else -1
        for number, row in enumerate(issue.booklet.rows, start=1)
    )


def contents_of(kind):
    """Return all contents of a kind, ascending."""
    return [content for content in range(-2, 100) if is_content(kind, content)]


def all_sheets(issue):
    """Tell all sheets without a lost page, in order."""
    form = issue.form
    return itertools.product(*[contents_of(form.kind_of(row[1])) for row in issue.booklet.rows])


def random_sheet(rng, issue, lost=0.15):
    """Return a sheet of an issue, often with empty rows, and with lost pages."""
    sheet = [rng.choice([-1] * 3 + contents_of(issue.form.kind_of(row[1]))) for row in issue.booklet.rows]
    for rows in pages_of(issue).values():
        if rng.random() < lost:
            for row in rows:
                sheet[row - 1] = None
        elif rng.random() < 0.15:
            for row in rows:
                sheet[row - 1] = -1
    return tuple(sheet)


def random_pages(rng, many):
    """Return pages for so many rows."""
    pages = []
    for _ in range(many):
        pages.append(pages[-1] + rng.choice((0, 0, 1)) if pages else 1)
    return tuple(pages)


def reading_by_words(issue, sheet, extra=0):
    """Return the fewest slips and the records of a reading with so many slips more."""
    slips = {record: slips_by_words(issue, record, sheet) for record in lawful_records(issue.form)}
    fewest = min(slips.values())
    return fewest, [record for record in slips if slips[record] <= fewest + extra]


def rivalry_by_words(issue):
    """Return the rivalry of an issue, as the words of [41] tell it."""
    records = lawful_records(issue.form)
    sheets = [(sheet, [slips_by_words(issue, record, sheet) for record in records]) for sheet in all_sheets(issue)]
    if len(records) < 2:
        return None
    found = []
    for first, second in itertools.combinations(range(len(records)), 2):
        slips, sheet = min((max(told[first], told[second]), sheet) for sheet, told in sheets)
        found.append((slips, records[first], records[second], sheet))
    # The records are in order already, but None cannot be compared.
    return min(found, key=lambda told: told[0])


def rivalry_of_two(issue):
    """Return the rivalry of an issue with two lawful records; it stops looking at a sheet that is too bad."""
    pages, told = pages_of(issue), []
    for record in lawful_records(issue.form):
        due = due_by_words(issue.booklet, record)
        answers = [(row, record[issue.form.place_of(issue.booklet.rows[row - 1][1])]) for row in due]
        told.append((answers, [range(row + 1, onward) for row, onward in zip(due, due[1:] + [issue.booklet.end])]))
    found = None
    for sheet in all_sheets(issue):
        empty = {row: page for page, rows in pages.items() for row in rows if all(sheet[at - 1] == -1 for at in rows)}
        most = 0
        for answers, gaps in told:
            slips = len({empty[row] for row, _ in answers if row in empty})
            slips += sum(sheet[row - 1] != answer for row, answer in answers if row not in empty)
            slips += sum(any(sheet[row - 1] != -1 for row in gap) for gap in gaps)
            most = max(most, slips)
            if found is not None and most >= found[0]:
                break
        else:
            found = (most, sheet)
    return (found[0],) + tuple(lawful_records(issue.form)) + (found[1],)


def unseen_by_words(issue):
    """Return the unseen slips of an issue, as the words of [42] tell them."""
    records = lawful_records(issue.form)
    found = [
        (slips_by_words(issue, first, right_by_words(issue, second)), first, second)
        for first in records for second in records if first != second
    ]
    return min(found, key=lambda told: told[0]) if found else None


def needed_rows(form):
    """Return how many rows the least booklet has: the different rests at which something is asked."""
    rests = {}
    for record in all_records(form):
        for place, value in enumerate(record):
            if value is not None:
                rests.setdefault((place, record[:place]), set()).add(record[place:])
    return len({(place, frozenset(rest)) for (place, _), rest in rests.items()})
