"""What the tests know of printed booklets by the words of the document alone."""

import re

from slipleaf.kinds import answers_of, ticked
from tests.test_lines import broken_by_words

LETTERS = "abcdef"


def listed_by_words(kind, answers):
    """Return answers as they stand ahead of an arrow."""
    if kind[0] == "count":
        told = []
        for answer in answers:
            if answer - 1 in answers:
                told[-1] = told[-1].split("-")[0] + f"-{answer}"
            else:
                told.append(str(answer))
        return ", ".join(told)
    return ", ".join("+".join(LETTERS[box] for box in ticked(kind, answer)) for answer in answers)


def labels_in(tongue, name):
    """Return the labels of the boxes of a question."""
    kind = tongue.form.kind_of(name)
    return [tongue.label(name, box if kind[0] == "pick" else 1 << box) for box in range(kind[1])]


def head_by_words(tongue, number, name, width):
    """Return the lines of a row ahead of its arrows."""
    place = tongue.form.names.index(name)
    lines = broken_by_words(f"{number}. Q{place + 1} ", tongue.paper_text(name), width)
    if tongue.form.kind_of(name)[0] == "count":
        return lines + ("  [  ]",)
    for letter, label in zip(LETTERS, labels_in(tongue, name)):
        lines += broken_by_words(f"  [{letter}] ", label, width)
    return lines


def row_by_words(tongue, number, row, end, pages, width):
    """Return the lines of a row, as the words of [33] tell them; pages has the page of each row."""
    goto, page, last, every, _ = tongue.words
    kind = tongue.form.kind_of(row[1])
    lines = head_by_words(tongue, number, row[1], width)
    for target in sorted(set(row[2]) - {number + 1}):
        answers = [answer for answer, arrow in zip(answers_of(kind), row[2]) if arrow == target]
        told = every if set(row[2]) == {target} else listed_by_words(kind, answers)
        onward = last if target == end else f"{goto} {target}, {page} {pages[target - 1]}"
        lines += broken_by_words("  > ", f"{told}: {onward}", width)
    return lines


def all_rows_by_words(booklet, tongue, pages, width):
    """Return the lines of all rows."""
    return [
        row_by_words(tongue, number, row, booklet.end, pages, width) for number, row in enumerate(booklet.rows, start=1)
    ]


def paged_by_words(lines, height):
    """Return the pages of rows with these lines; None if one of them is too tall, with its number."""
    pages, used = [], 0
    for number, row in enumerate(lines, start=1):
        if len(row) > height - 1:
            return number
        if not pages or used + len(row) > height:
            pages.append(pages[-1] + 1 if pages else 1)
            used = 1
        else:
            pages.append(pages[-1])
        used += len(row)
    return tuple(pages)


def layout_by_words(booklet, tongue, width, height):
    """Return the pages of the rows, or the number of the first row that is too tall."""
    pages = (1,) * len(booklet)
    while True:
        paged = paged_by_words(all_rows_by_words(booklet, tongue, pages, width), height)
        if paged == pages or isinstance(paged, int):
            return paged
        pages = paged


def printed_by_words(booklet, tongue, pages, width):
    """Return the pages with their lines."""
    told = {}
    for page, lines in zip(pages, all_rows_by_words(booklet, tongue, pages, width)):
        told.setdefault(page, (f"= {tongue.words[1]} {page} =",))
        told[page] += lines
    return tuple(told[page] for page in sorted(told))


def arrows_by_words(tongue, number, end, kind, lines):
    """Return the arrows that lines tell and the pages that they name, or None if they are not right."""
    goto, page, last, every, _ = (re.escape(word) for word in tongue.words)
    bodies = []
    for line in lines:
        if line[:4] == "  > ":
            bodies.append(line[4:])
        elif not bodies or line[:4] != "    ":
            return None
        else:
            bodies[-1] += " " + line[4:]
    arrows, named = {}, {}
    for body in bodies:
        found = re.fullmatch(rf"(.+): (?:({last})|{goto} ([1-9]\d*), {page} ([1-9]\d?\d?))", body)
        if found is None:
            return None
        target = end if found[2] else int(found[3])
        if target <= number + 1 or target > end or (target == end) != bool(found[2]):
            return None
        choices = [answer for answer in answers_of(kind) if answer not in arrows]
        # The answers must be listed just as they would be; so those listed are looked for among all.
        if re.fullmatch(every, found[1]):
            answers = list(answers_of(kind))
        else:
            answers = [answer for answer in choices if is_listed(kind, answer, found[1])]
            if listed_by_words(kind, answers) != found[1] or len(answers) == len(answers_of(kind)):
                return None
        for answer in answers:
            arrows[answer] = target
        if not found[2]:
            named[target] = int(found[4])
    return tuple(arrows.get(answer, number + 1) for answer in answers_of(kind)), named


def is_listed(kind, answer, text):
    """Tell whether an answer is listed in a text, perhaps in a stretch."""
    for part in text.split(", "):
        if kind[0] != "count":
            if part == listed_by_words(kind, [answer]):
                return True
        else:
            found = re.fullmatch(r"(\d{1,2})(?:-(\d{1,2}))?", part)
            if found and int(found[1]) <= answer <= int(found[2] or found[1]):
                return True
    return False


def read_by_words(form, tongue, pages, width):
    """Return the rows and their pages, or the number of BadPrint, as the words of [36] tell it."""
    prints, row_pages = [], []
    for page, lines in enumerate(pages, start=1):
        if not lines or lines[0] != f"= {tongue.words[1]} {page} =" or not re.match("[0-9]", (list(lines) + [""])[1]):
            return 0
        for line in lines[1:]:
            if re.match("[0-9]", line):
                prints.append(())
                row_pages.append(page)
            prints[-1] += (line,)
    rows, named = [], []
    for number, lines in enumerate(prints, start=1):
        found = None
        for name in form.names:
            head = head_by_words(tongue, number, name, width)
            if lines[:len(head)] == head:
                told = arrows_by_words(tongue, number, len(prints) + 1, form.kind_of(name), lines[len(head):])
                if told is not None:
                    row = ("ask", name, told[0])
                    pages_told = [told[1].get(at, 1) for at in range(1, len(prints) + 2)]
                    if row_by_words(tongue, number, row, len(prints) + 1, pages_told, width) == lines:
                        found = (row, told[1])
        if found is None:
            return number
        rows.append(found[0])
        named.append(found[1])
    for number, told in enumerate(named, start=1):
        if any(row_pages[target - 1] != page for target, page in told.items()):
            return number
    return tuple(rows), tuple(row_pages)


def followed(form, pages, person, words):
    """Return the contents of a sheet as a person fills it who goes by the printed pages alone."""
    rows, texts = [], []
    for page in pages:
        for line in page[1:]:
            if line[0].isdigit():
                texts.append([])
            texts[-1].append(line)
    contents, number = [-1] * len(texts), 1
    while number <= len(texts):
        rows.append(number)
        place = int(re.match(r"\d+\. Q(\d+)", texts[number - 1][0])[1]) - 1
        kind, answer = form.questions[place][1], person[place]
        contents[number - 1] = answer
        onward = number + 1
        for body in "\n".join(texts[number - 1]).replace("\n    ", " ").split("\n  > ")[1:]:
            told, _, target = body.strip().partition(": ")
            if told == words[3] or is_listed(kind, answer, told):
                onward = len(texts) + 1 if target == words[2] else int(re.match(words[0] + r" (\d+)", target)[1])
        number = onward
    return tuple(contents)
