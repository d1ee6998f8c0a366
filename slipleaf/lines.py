"""Lines: paragraphs broken at a width."""

from slipleaf.bounds import is_within
from slipleaf.errors import BadSize

LEAST_WIDTH = 24
GREATEST_WIDTH = 80
LONGEST_WORD = 12
INDENT = "    "


def broken(head, body, width):
    """Return the lines of a paragraph with this head and body."""
    check_width(width)
    lines = []
    line, gap = head, ""
    for word in _words_of(body):
        if len(line) + len(gap) + len(word) > width:
            lines.append(line)
            line, gap = INDENT, ""
        line = line + gap + word
        gap = " "
    lines.append(line)
    return tuple([told.rstrip(" ") for told in lines])


def check_width(width):
    """Raise BadSize if this is no width of a page."""
    if not is_within(width, LEAST_WIDTH, GREATEST_WIDTH):
        raise BadSize(width)


def _words_of(body):
    """Return the words of a body; what is too long for a line is cut into several."""
    words = []
    for stretch in body.split(" "):
        words.extend([stretch[at:at + LONGEST_WORD] for at in range(0, len(stretch), LONGEST_WORD)])
    return words
