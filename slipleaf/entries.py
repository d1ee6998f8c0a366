"""Entries: what clerks write of the houses that they deal with, and the lines of journals."""

from slipleaf.bounds import is_within
from slipleaf.errors import BadEntry
from slipleaf.kinds import is_content
from slipleaf.papers import is_letter, is_note

LETTERS = "abcdefghijklmnopqrstuvwxyz"
FIGURES = "0123456789"
MOST_LETTERS = 6
MOST_NUMBER = 9999
MOST_DAY = 999
MOST_HOUSE = 999
MOST_FIGURES = 4
MODULUS = 97
# What is written for the value None.
NOTHING = "none"


def is_house(thing):
    """Tell whether this is the number of a house."""
    return is_within(thing, 1, MOST_HOUSE)


def is_entry(issue, thing):
    """Tell whether this is an entry of an issue."""
    if not isinstance(thing, tuple) or len(thing) != 4:
        return False
    clerk, number, day, deed = thing
    if not _is_clerk(clerk) or not is_within(number, 0, MOST_NUMBER) or not is_within(day, 0, MOST_DAY):
        return False
    if not isinstance(deed, tuple) or len(deed) < 2 or not isinstance(deed[0], str) or not is_house(deed[1]):
        return False
    if deed[0] in ("strike", "return"):
        return len(deed) == 2
    if len(deed) != 4:
        return False
    if deed[0] == "page":
        return _is_page(issue, deed[2], deed[3])
    if deed[0] == "letter":
        names, contents = deed[2], deed[3]
        if not isinstance(names, tuple) or not isinstance(contents, tuple) or not names:
            return False
        return is_letter(issue.form, names, contents)
    return deed[0] == "note" and is_note(issue.form, deed[2], deed[3])


def _is_clerk(thing):
    """Tell whether this is a clerk."""
    if not isinstance(thing, str) or not 1 <= len(thing) <= MOST_LETTERS:
        return False
    return all([sign in LETTERS for sign in thing])


def _is_page(issue, page, contents):
    """Tell whether these are the contents of the rows on a page of an issue."""
    if not is_within(page, 1, issue.page_count) or not isinstance(contents, tuple):
        return False
    rows = issue.rows_on(page)
    kinds = [issue.form.kind_of(issue.booklet.rows[row - 1][1]) for row in rows]
    return len(contents) == len(kinds) and all([is_content(kind, told) for kind, told in zip(kinds, contents)])


def entry_line(issue, entry):
    """Return the line of an entry, with its line feed."""
    if not is_entry(issue, entry):
        raise BadEntry()
    clerk, number, day, deed = entry
    words = [clerk, str(number), str(day), deed[0], str(deed[1])]
    if deed[0] == "page":
        words.extend([str(told) for told in (deed[2],) + deed[3]])
    elif deed[0] == "letter":
        for name, content in zip(deed[2], deed[3]):
            words.extend([name, str(content)])
    elif deed[0] == "note":
        words.extend([deed[2], NOTHING if deed[3] is None else str(deed[3])])
    text = " ".join(words)
    total = sum([ord(sign) for sign in text]) % MODULUS
    return f"{text} ={total:02d}\n"


def read_line(issue, line):
    """Return the entry of which this is the line, or None."""
    words = line[:-1].split(" ")
    if len(words) < 6:
        return None
    clerk, number, day, word, house = words[:5]
    entry = (clerk, _number_of(number), _number_of(day), (word, _number_of(house)) + _rest_of(word, words[5:-1]))
    # What is not read as it was written comes out as another line.
    return entry if is_entry(issue, entry) and entry_line(issue, entry) == line else None


def _rest_of(word, words):
    """Return what these words tell of a deed behind its house."""
    if word == "page" and words:
        return (_number_of(words[0]), tuple([_number_of(told) for told in words[1:]]))
    if word == "letter":
        return (tuple(words[::2]), tuple([_number_of(told) for told in words[1::2]]))
    if word == "note" and len(words) == 2:
        return (words[0], None if words[1] == NOTHING else _number_of(words[1]))
    return tuple(words)


def _number_of(word):
    """Return the number that is written in a word; None if it is none, or a longer one than there are in entries."""
    figures = word[1:] if word[:1] == "-" else word
    if not 1 <= len(figures) <= MOST_FIGURES or not all([figure in FIGURES for figure in figures]):
        return None
    return int(word)
