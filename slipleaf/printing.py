"""Printing: the lines of the rows of a booklet in a tongue.

The functions check_printable, page_line, head_lines, printed_arrows and arrow_lines are for the
other files.
"""

from slipleaf.bounds import is_within
from slipleaf.errors import BadAnswer, BadKind, BadNumber, BadRow, Unlike
from slipleaf.kinds import answers_of, is_answer, is_kind, size_of, ticked
from slipleaf.lines import broken, check_width

BOX_LETTERS = "abcdef"
COUNT_LINE = "  [  ]"
ARROW_HEAD = "  > "


def answers_listed(kind, answers):
    """Return ascending answers of a kind as they stand ahead of an arrow."""
    if not is_kind(kind):
        raise BadKind()
    if not all([is_answer(kind, answer) for answer in answers]):
        raise BadAnswer("")
    if not all([first < second for first, second in zip(answers, answers[1:])]):
        raise BadAnswer("")
    if kind[0] == "count":
        return ", ".join(_stretches(answers))
    letters = [[BOX_LETTERS[box] for box in ticked(kind, answer)] for answer in answers]
    return ", ".join(["+".join(row) for row in letters])


def row_lines(booklet, tongue, row, pages, width):
    """Return the lines of one row when the rows stand on these pages."""
    check_printable(booklet, tongue)
    if not is_within(row, 1, len(booklet)):
        raise BadNumber(row)
    check_width(width)
    told = booklet[row]
    page_of = dict(enumerate(pages, start=1))
    return head_lines(tongue, row, told[1], width) + arrow_lines(tongue, row, told, booklet.end, page_of, width)


def check_printable(booklet, tongue):
    """Raise the first error of a booklet and a tongue in which it is to be printed."""
    if booklet.form != tongue.form:
        raise Unlike()
    look = booklet.first_look()
    if look > 0:
        raise BadRow(look)


def page_line(tongue, page):
    """Return the first line of a page."""
    return f"= {tongue.words[1]} {page} ="


def head_lines(tongue, number, name, width):
    """Return the lines of the row of this number that asks a question, ahead of its arrows."""
    place = tongue.form.place_of(name)
    lines = broken(f"{number}. Q{place + 1} ", tongue.paper_text(name), width)
    if tongue.form.kind_of(name)[0] == "count":
        return lines + (COUNT_LINE,)
    for letter, label in zip(BOX_LETTERS, tongue.box_labels(name)):
        lines = lines + broken(f"  [{letter}] ", label, width)
    return lines


def printed_arrows(number, row):
    """Return the numbers to which a row has printed arrows, ascending."""
    return tuple([target for target in sorted(set(row[2])) if target != number + 1])


def arrow_lines(tongue, number, row, end, page_of, width):
    """Return the lines of the arrows of a row; page_of has the page of each row to which they lead."""
    kind = tongue.form.kind_of(row[1])
    led = {}
    for answer, target in zip(answers_of(kind), row[2]):
        led.setdefault(target, []).append(answer)
    go_to, page, end_word, every, _ = tongue.words
    lines = ()
    for target in printed_arrows(number, row):
        answers = led[target]
        listed = every if len(answers) == size_of(kind) else answers_listed(kind, answers)
        onward = end_word if target == end else f"{go_to} {target}, {page} {page_of[target]}"
        lines = lines + broken(ARROW_HEAD, f"{listed}: {onward}", width)
    return lines


def _stretches(answers):
    """Return the longest stretches of neighbouring numbers, as they are written."""
    stretches = []
    for answer in answers:
        if stretches and stretches[-1][1] == answer - 1:
            stretches[-1] = (stretches[-1][0], answer)
        else:
            stretches.append((answer, answer))
    return [str(low) if low == high else f"{low}-{high}" for low, high in stretches]
