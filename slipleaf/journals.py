"""Journals: books written down line by line, and taken up again."""

from slipleaf.books import Book
from slipleaf.entries import entry_line, read_line
from slipleaf.errors import Clash


def journal(book):
    """Return the lines of all entries in order."""
    return "".join([entry_line(book.issue, entry) for entry in book.told()])


def taken_up(issue, text):
    """Return the book of the lines that count, and how many they are."""
    book = Book(issue)
    many = 0
    # What stands behind the last line feed is no whole line.
    for line in text.split("\n")[:-1]:
        entry = read_line(issue, line + "\n")
        if entry is None or not _is_put(book, entry):
            break
        many += 1
    return book, many


def _is_put(book, entry):
    """Put an entry in, and tell whether it could be."""
    try:
        book.put(entry)
    except Clash:
        return False
    return True
