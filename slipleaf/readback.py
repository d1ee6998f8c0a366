"""Reading back: the rows of a booklet and their pages, from what was printed."""

from slipleaf.errors import BadPrint, Unlike
from slipleaf.kinds import answers_of
from slipleaf.lines import check_width
from slipleaf.printing import ARROW_HEAD, answers_listed, arrow_lines, head_lines, page_line

FIGURES = "0123456789"
MOST_PAGES = 999
# What a row that cannot be read is read as.
NO_ROW = ("", "", ())


def read_back(form, tongue, pages, *, width=60):
    """Return the pair of the rows of a printed booklet and of their pages."""
    if form != tongue.form:
        raise Unlike()
    check_width(width)
    prints, row_pages = _parted(tongue, pages)
    rows, named = [], []
    for number, lines in enumerate(prints, start=1):
        row, page_of = PrintReader(tongue, number, len(prints) + 1).read(lines, width)
        if row == NO_ROW:
            raise BadPrint(number)
        rows.append(row)
        named.append(page_of)
    for number, page_of in enumerate(named, start=1):
        if not all([page == row_pages[target - 1] for target, page in page_of.items()]):
            raise BadPrint(number)
    return tuple(rows), tuple(row_pages)


def _parted(tongue, pages):
    """Return the list of the lines of each row, and that of their pages."""
    prints, row_pages = [], []
    for page, lines in enumerate(pages, start=1):
        if len(lines) < 2 or lines[0] != page_line(tongue, page) or not _begins_row(lines[1]):
            raise BadPrint(0)
        for line in lines[1:]:
            if _begins_row(line):
                prints.append([])
                row_pages.append(page)
            prints[-1].append(line)
    return prints, row_pages


def _begins_row(line):
    """Tell whether a row begins with this line."""
    return line != "" and line[0] in FIGURES


def _number_of(word, low, high):
    """Return the number from low to high that a word writes, or -1."""
    if not 1 <= len(word) <= len(str(high)) or not all([sign in FIGURES for sign in word]):
        return -1
    return int(word) if str(int(word)) == word and low <= int(word) <= high else -1


class PrintReader:
    """Reads the lines of the row of one number."""

    def __init__(self, tongue, number, final):
        self.tongue = tongue
        self.number = number
        self.final = final

    def read(self, lines, width):
        """Return the row and a dict from the numbers that it names to their pages, or NO_ROW and an empty dict."""
        name = self._name_in(lines[0])
        if name == "":
            return NO_ROW, {}
        heads = head_lines(self.tongue, self.number, name, width)
        if tuple(lines[:len(heads)]) != heads:
            return NO_ROW, {}
        row, page_of = self._row_with(name, lines[len(heads):])
        if row == NO_ROW:
            return NO_ROW, {}
        # What was read is right just if it is printed so again.
        arrows = arrow_lines(self.tongue, self.number, row, self.final, page_of, width)
        return (row, page_of) if heads + arrows == tuple(lines) else (NO_ROW, {})

    def _name_in(self, line):
        """Return the name of the question that the first line of a row tells, or an empty string."""
        words = line.split(" ")
        if len(words) < 2 or words[1][:1] != "Q":
            return ""
        place = _number_of(words[1][1:], 1, len(self.tongue.form))
        return "" if place < 0 else self.tongue.form.names[place - 1]

    def _row_with(self, name, lines):
        """Return what read does, as the lines of the arrows say."""
        answers = answers_of(self.tongue.form.kind_of(name))
        arrows = {answer: self.number + 1 for answer in answers}
        page_of = {}
        for words in _paragraphs(lines):
            colon = self._colon_in(words)
            target, page = self._target_in(words[colon + 1:])
            led = self._answers_in(name, words[:colon + 1])
            if target < 0 or not led:
                return NO_ROW, {}
            for answer in led:
                arrows[answer] = target
            if target < self.final:
                page_of[target] = page
        return ("ask", name, tuple([arrows[answer] for answer in answers])), page_of

    def _colon_in(self, words):
        """Return the place of the first word that ends in a colon, or that of the last word."""
        for place, word in enumerate(words):
            if word.endswith(":"):
                return place
        return len(words) - 1

    def _target_in(self, words):
        """Return the number and the page to which words tell to go; -1 if they tell none."""
        go_to, page_word, end_word, _, _ = self.tongue.words
        if words == [end_word]:
            return self.final, 0
        if len(words) != 4 or words[0] != go_to or words[2] != page_word or not words[1].endswith(","):
            return -1, 0
        page = _number_of(words[3], 1, MOST_PAGES)
        return (-1 if page < 0 else _number_of(words[1][:-1], self.number + 1, self.final - 1)), page

    def _answers_in(self, name, words):
        """Return the list of the answers that words ahead of an arrow tell, none if they are wrong."""
        kind = self.tongue.form.kind_of(name)
        text = " ".join(words)[:-1]
        if text == self.tongue.words[3]:
            return list(answers_of(kind))
        if kind[0] == "count":
            return _numbers_in(text, kind[1], kind[2])
        told = {answers_listed(kind, (answer,)): answer for answer in answers_of(kind)}
        parts = text.split(", ")
        return [told[part] for part in parts] if all([part in told for part in parts]) else []


def _paragraphs(lines):
    """Return the words of each paragraph of arrows; lines that are none of an arrow go to an empty paragraph."""
    found = []
    for line in lines:
        if line.startswith(ARROW_HEAD):
            found.append([])
        elif not found:
            return [[]]
        found[-1].extend([word for word in line[len(ARROW_HEAD):].split(" ") if word])
    return found


def _numbers_in(text, low, high):
    """Return the list of the numbers that stretches tell, none if one is wrong."""
    numbers = []
    for part in text.split(", "):
        first, dash, last = part.partition("-")
        least = _number_of(first, low, high)
        greatest = _number_of(last, low, high) if dash else least
        if least < 0 or greatest < 0:
            return []
        numbers.extend(list(range(least, greatest + 1)))
    return numbers
