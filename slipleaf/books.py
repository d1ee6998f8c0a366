"""Books: the entries that clerks made for the houses of one issue.

The method by_house and the functions is_struck_by and papers_by are for the other files.
"""

from slipleaf.cases import Case
from slipleaf.entries import is_entry, is_house
from slipleaf.errors import BadEntry, BadNumber, Clash, NoRecord, Unlike
from slipleaf.nodes import NOWHERE
from slipleaf.papers import Letter, Note, Sheet


class Book:
    """A set of entries for one issue."""

    def __init__(self, issue, entries=()):
        if issue.lawful_layers[1] == NOWHERE:
            raise NoRecord()
        told = {}
        for entry in entries:
            _check_entry(issue, told, entry)
            told[entry[:2]] = entry
        self.issue = issue
        # The keys are pairs of a clerk and a number.
        self._entries = told

    def put(self, entry):
        """Put an entry in; nothing changes if it is there already."""
        _check_entry(self.issue, self._entries, entry)
        self._entries[entry[:2]] = entry

    def __or__(self, other):
        if self.issue != other.issue:
            raise Unlike()
        for clerk, number in sorted(list(self._entries)):
            key = (clerk, number)
            if other._entries.get(key, self._entries[key]) != self._entries[key]:
                raise Clash(clerk, number)
        joined = Book(self.issue)
        joined._entries = {entry[:2]: entry for book in (self, other) for entry in book._entries.values()}
        return joined

    def __eq__(self, other):
        return isinstance(other, Book) and self.issue == other.issue and self._entries == other._entries

    def copy(self):
        """Return a book of its own with the same entries."""
        other = Book(self.issue)
        other._entries = {key: self._entries[key] for key in self._entries}
        return other

    def __len__(self):
        return len(self._entries)

    def told(self):
        """Return the tuple of all entries in order."""
        return tuple(_in_order(list(self._entries.values())))

    def houses(self):
        """Return the houses that the entries name, ascending."""
        return tuple(sorted(set([entry[3][1] for entry in self._entries.values()])))

    def by_house(self):
        """Return a dict from all houses, ascending, to the list of their entries in order."""
        told = {house: [] for house in self.houses()}
        for entry in self.told():
            told[entry[3][1]].append(entry)
        return told

    def is_struck(self, house):
        """Tell whether the last entry of a house that strikes or returns is one that strikes."""
        return is_struck_by(self._entries_of(house))

    def papers_of(self, house):
        """Return the papers of a house."""
        return papers_by(self.issue, self._entries_of(house))

    def case_of(self, house):
        """Return the case of a house."""
        return Case(self.issue, self.papers_of(house))

    def state_of(self, house):
        """Return "struck", "none", "sure" or "open"."""
        if self.is_struck(house):
            return "struck"
        case = self.case_of(house)
        if len(case) == 0:
            return "none"
        return "sure" if case else "open"

    def trial(self):
        """Return an object for `with`, behind whose block the book has just the entries that it had."""
        return BookTrial(self)

    def state_with(self, house, entry):
        """Return the state of a house when an entry is put in; afterwards the book has what it had."""
        _check_house(house)
        with self.trial():
            self.put(entry)
            return self.state_of(house)

    def _entries_of(self, house):
        """Return the list of the entries of a house in order."""
        _check_house(house)
        return _in_order([entry for entry in self._entries.values() if entry[3][1] == house])


class BookTrial:
    """Gives a book the entries back that it had."""

    def __init__(self, book):
        self.book = book
        self.held = None

    def __enter__(self):
        self.held = HeldEntries(self.book, self.held)
        return self.book

    def __exit__(self, kind, value, trace):
        book = self.book
        held = self.held
        book._entries = held.entries
        self.held = held.outer


class HeldEntries:
    """The entries of a book when a block began; outer: those of a block around it with the same object, or None."""

    def __init__(self, book, outer):
        self.entries = {entry[:2]: entry for entry in book.told()}
        self.outer = outer


def is_struck_by(entries):
    """Tell whether a house with these entries, in order, is struck."""
    words = [entry[3][0] for entry in entries if entry[3][0] in ("strike", "return")]
    return words[-1:] == ["strike"]


def papers_by(issue, entries):
    """Return the tuple of the papers of a house with these entries, in order."""
    pages, letters, notes = {}, {}, {}
    for _, _, _, deed in entries:
        if deed[0] == "page":
            pages[deed[2]] = deed[3]
        elif deed[0] == "letter":
            letters.update(dict(zip(deed[2], deed[3])))
        elif deed[0] == "note":
            notes[deed[2]] = deed[3]
    papers = []
    if pages:
        papers.append(_sheet_of(issue, pages))
    if letters:
        names = [name for name in issue.form.names if name in letters]
        papers.append(Letter(issue.form, names, [letters[name] for name in names]))
    papers.extend([Note(issue.form, name, notes[name]) for name in issue.form.names if name in notes])
    return tuple(papers)


def _sheet_of(issue, pages):
    """Return the sheet with the contents of some pages; the others count as lost."""
    sheet = []
    for page in range(1, issue.page_count + 1):
        sheet.extend(pages[page] if page in pages else (None,) * len(issue.rows_on(page)))
    return Sheet(issue, tuple(sheet))


def _in_order(entries):
    """Return the list of entries by day, then clerk, then number."""
    return [entry for _, _, _, entry in sorted([(entry[2], entry[0], entry[1], entry) for entry in entries])]


def _check_house(house):
    """Raise BadNumber if this is no house."""
    if not is_house(house):
        raise BadNumber(house)


def _check_entry(issue, entries, entry):
    """Raise what is wrong about an entry beside others, of which the keys are pairs of a clerk and a number."""
    if not is_entry(issue, entry):
        raise BadEntry()
    if entries.get(entry[:2], entry) != entry:
        raise Clash(entry[0], entry[1])
