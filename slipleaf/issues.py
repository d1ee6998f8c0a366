"""Issues: booklets of rows that ask and lead right, with the pages of their rows."""

from slipleaf.arrows import due_rows, least_booklet
from slipleaf.booklets import MOST_ROWS
from slipleaf.bounds import is_within
from slipleaf.errors import BadNumber, BadPages, BadRow, BadSheet, Misled
from slipleaf.judging import fault
from slipleaf.kinds import EMPTY, is_content
from slipleaf.nodes import layers_of_lawful


class Issue:
    """A booklet as it is sent out."""

    def __init__(self, booklet, pages):
        look = booklet.first_look()
        if look > 0:
            raise BadRow(look)
        wrong = fault(booklet)
        if wrong is not None:
            raise Misled(wrong[0], wrong[1])
        if not isinstance(pages, (list, tuple)) or len(pages) != len(booklet):
            raise BadPages(0)
        for row, page in enumerate(pages, start=1):
            least = 1 if row == 1 else pages[row - 2]
            if not is_within(page, least, 1 if row == 1 else least + 1):
                raise BadPages(row)
        self.form = booklet.form
        self.booklet = booklet
        self.pages = tuple(pages)
        # What the property lawful_layers tells, once it was asked for.
        self._lawful_kept = None

    @staticmethod
    def made(form, rows=1):
        """Return the plain issue with so many rows on a page."""
        if not is_within(rows, 1, MOST_ROWS):
            raise BadNumber(rows)
        booklet = least_booklet(form)
        return Issue(booklet, [row // rows + 1 for row in range(len(booklet))])

    @property
    def page_count(self):
        """How many pages there are."""
        return self.pages[-1] if self.pages else 0

    @property
    def lawful_layers(self):
        """The layers of the nodes of the lawful records (slipleaf/nodes.py), and the first node."""
        if self._lawful_kept is None:
            self._lawful_kept = layers_of_lawful(self.form)
        return self._lawful_kept

    def rows_on(self, page):
        """Return the numbers of the rows on a page."""
        if not is_within(page, 1, self.page_count):
            raise BadNumber(page)
        return tuple([row for row, other in enumerate(self.pages, start=1) if other == page])

    def right_sheet(self, record):
        """Return the sheet on which this record is told without a slip."""
        contents = [EMPTY] * len(self.booklet)
        for row in due_rows(self.booklet, record):
            contents[row - 1] = record[self.form.place_of(self.booklet.rows[row - 1][1])]
        return tuple(contents)

    def check_sheet(self, sheet):
        """Raise BadSheet if this is no sheet of the issue."""
        if not isinstance(sheet, tuple) or len(sheet) != len(self.booklet):
            raise BadSheet(0)
        for row, (content, told) in enumerate(zip(sheet, self.booklet.rows), start=1):
            if content is not None and not is_content(self.form.kind_of(told[1]), content):
                raise BadSheet(row)
        kept = {page: True for content, page in zip(sheet, self.pages) if content is not None}
        for row, (content, page) in enumerate(zip(sheet, self.pages), start=1):
            if content is None and page in kept:
                raise BadSheet(row)

    def __eq__(self, other):
        return isinstance(other, Issue) and self.booklet == other.booklet and self.pages == other.pages
