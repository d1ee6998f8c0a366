"""Pressing: a booklet printed on pages of a width and a height."""

from slipleaf.bounds import is_within
from slipleaf.errors import BadSize, TooTall
from slipleaf.lines import check_width
from slipleaf.printing import arrow_lines, check_printable, head_lines, page_line, printed_arrows

LEAST_HEIGHT = 5
GREATEST_HEIGHT = 60


class Press:
    """Prints one booklet in one tongue."""

    def __init__(self, booklet, tongue, *, width=60, height=30):
        check_printable(booklet, tongue)
        _check_sizes(width, height)
        self.booklet = booklet
        self.tongue = tongue
        self._width = width
        self._height = height

    @property
    def width(self):
        """The most signs of a line."""
        return self._width

    @width.setter
    def width(self, value):
        """Assign the width."""
        check_width(value)
        self._width = value

    @property
    def height(self):
        """The most lines of a page."""
        return self._height

    @height.setter
    def height(self, value):
        """Assign the height."""
        _check_height(value)
        self._height = value

    def resize(self, width, height):
        """Assign the width and the height."""
        _check_sizes(width, height)
        self._width = width
        self._height = height

    def layout(self):
        """Return the page of each row."""
        rows = list(enumerate(self.booklet.rows, start=1))
        heads = [len(head_lines(self.tongue, number, row[1], self._width)) for number, row in rows]
        targets = [printed_arrows(number, row) for number, row in rows]
        # For each row how many lines its arrows take, by how many figures the pages have that they name.
        known = [{} for _ in rows]
        pages = (1,) * len(rows)
        while True:
            page_of = dict(enumerate(pages, start=1))
            page_of[self.booklet.end] = 0
            heights = []
            for number, row in rows:
                sizes = tuple([len(str(page_of[target])) for target in targets[number - 1]])
                if sizes not in known[number - 1]:
                    known[number - 1][sizes] = len(self._arrows(number, row, page_of))
                heights.append(heads[number - 1] + known[number - 1][sizes])
            paged = _paged(heights, self._height)
            if paged == pages:
                return pages
            pages = paged

    def printed(self):
        """Return the pages, each with its lines."""
        pages = self.layout()
        page_of = dict(enumerate(pages, start=1))
        told = {page: (page_line(self.tongue, page),) for page in pages}
        for number, row in enumerate(self.booklet.rows, start=1):
            lines = head_lines(self.tongue, number, row[1], self._width) + self._arrows(number, row, page_of)
            told[page_of[number]] = told[page_of[number]] + lines
        return tuple([told[page] for page in sorted(told)])

    def trial(self):
        """Return an object for `with`, behind whose block the width and the height are what they were."""
        return PressTrial(self)

    def printed_at(self, width, height):
        """Return what is printed with this width and this height; afterwards they are what they were."""
        with self.trial():
            self.resize(width, height)
            return self.printed()

    def _arrows(self, number, row, page_of):
        """Return the lines of the arrows of a row."""
        return arrow_lines(self.tongue, number, row, self.booklet.end, page_of, self._width)


class PressTrial:
    """Gives a press its width and its height back."""

    def __init__(self, press):
        self.press = press
        self.held = None

    def __enter__(self):
        self.held = HeldSizes(self.press, self.held)
        return self.press

    def __exit__(self, kind, value, trace):
        press = self.press
        held = self.held
        press._width = held.wide
        press._height = held.high
        self.held = held.outer


class HeldSizes:
    """The sizes of a press when a block began; outer: those of a block around it with the same object, or None."""

    def __init__(self, press, outer):
        self.wide = press.width
        self.high = press.height
        self.outer = outer


def _check_height(height):
    """Raise BadSize if this is no height of a page."""
    if not is_within(height, LEAST_HEIGHT, GREATEST_HEIGHT):
        raise BadSize(height)


def _check_sizes(width, height):
    """Raise BadSize for a wrong width, then for a wrong height."""
    check_width(width)
    _check_height(height)


def _paged(heights, height):
    """Return the pages of rows that have so many lines."""
    pages = []
    page, used = 1, 1
    for number, tall in enumerate(heights, start=1):
        if tall > height - 1:
            raise TooTall(number)
        if used + tall > height:
            page, used = page + 1, 1
        pages.append(page)
        used = used + tall
    return tuple(pages)
