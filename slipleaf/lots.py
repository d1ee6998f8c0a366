"""Lots: the fewest questions whose values tell some records apart.

The function check_few is for the other files.
"""

from slipleaf.errors import BadRecord, NoRecord, TooMany
from slipleaf.records import is_record

MOST_RECORDS = 12


def fewest_lot(form, records):
    """Return the names of the fewest questions at which any two of these records have different values."""
    check_few(form, records)
    return _lot_of(form, records)


def ask_again(case, extra=0):
    """Return the fewest lot for the records of a case with so many slips more than the fewest."""
    records = case.first_within(extra, MOST_RECORDS + 1)
    if len(records) > MOST_RECORDS:
        raise TooMany("record")
    return _lot_of(case.form, records)


def check_few(form, records):
    """Raise the first error of what should be a few different records of a form."""
    if len(records) > MOST_RECORDS:
        raise TooMany("record")
    for number, record in enumerate(records):
        if not is_record(form, record) or record in records[:number]:
            raise BadRecord(number)
    if not records:
        raise NoRecord()


def _lot_of(form, records):
    """Return the fewest lot of what is known to be different records."""
    splits = [_parted_by([record[place] for record in records]) for place in range(len(form))]
    pairs = (1 << (len(records) * (len(records) - 1) // 2)) - 1
    left = list(range(len(form)))
    size = 0
    while not _can_part(splits, pairs, left, size):
        size += 1
    names = []
    for place, parted in enumerate(splits):
        left = left[1:]
        onward = pairs & ~parted
        if size > 0 and onward != pairs and _can_part(splits, onward, left, size - 1):
            names.append(form.names[place])
            pairs = onward
            size -= 1
    return tuple(names)


def _parted_by(values):
    """Return the pairs of records at which a question has different values.

    Pairs are numbered in order, those of record 1 ahead of those of record 2; the pairs of the
    numbers k are told as the sum of 2 ** k.
    """
    pairs = 0
    number = 0
    for at, value in enumerate(values):
        for other in values[:at]:
            pairs = pairs | (int(value != other) << number)
            number += 1
    return pairs


def _can_part(splits, pairs, places, size):
    """Tell whether at most so many of these places part all of some pairs; splits: what each place parts."""
    if pairs == 0:
        return True
    if size == 0:
        return False
    useful = _undominated(splits, pairs, places)
    counts = sorted([_many(splits[place] & pairs) for place in useful], reverse=True)
    if sum(counts[:size]) < _many(pairs):
        return False
    if size == 1:
        return True
    left = useful
    # One of these must be among them; where one was tried, the others need not try it again.
    for place in _scarcest(splits, pairs, useful):
        left = [other for other in left if other != place]
        if _can_part(splits, pairs & ~splits[place], left, size - 1):
            return True
    return False


def _undominated(splits, pairs, places):
    """Return the places of which no other one parts all that they part."""
    found = {}
    for place in places:
        parted = splits[place] & pairs
        if parted:
            found.setdefault(parted, place)
    return [
        place for parted, place in found.items()
        if not any([parted != other and parted & other == parted for other in found])
    ]


def _scarcest(splits, pairs, places):
    """Return the places that part that one of the pairs which the fewest of them part."""
    best = None
    for number in range(pairs.bit_length()):
        if (pairs >> number) & 1 == 1:
            parting = [place for place in places if (splits[place] >> number) & 1 == 1]
            if best is None or len(parting) < len(best):
                best = parting
    return best


def _many(pairs):
    """Return how many pairs these are."""
    return f"{pairs:b}".count("1")
