"""Random booklets, tongues and issues for the tests."""

from slipleaf.arrows import least_booklet
from slipleaf.booklets import Booklet
from slipleaf.classes import Classes
from slipleaf.issues import Issue
from slipleaf.judging import fault
from slipleaf.kinds import answers_of
from slipleaf.numerals import Numerals
from slipleaf.pieces import on_paper
from slipleaf.tongues import Tongue
from tests.helper import ALWAYS
from tests.oracle import kinds_in, random_condition
from tests.paper_oracle import random_pages

UNITS = (
    "zero", "one", "two", "three", "four", "five", "six", "seven", "eight", "nine", "ten", "eleven", "twelve",
    "thirteen", "fourteen", "fifteen", "sixteen", "seventeen", "eighteen", "nineteen",
)
TENS = ("twenty", "thirty", "forty", "fifty", "sixty", "seventy", "eighty", "ninety")
NUMERALS = Numerals(UNITS, TENS)
ONE_OR_MORE = Classes([(100, (1,), 0, 99)])
WORDS = ("goto", "page", "end", "any", "and")
OTHER_WORDS = ("gehezu", "seite", "schluss", "alle", "und")
OTHER_NUMERALS = Numerals([word[::-1] for word in UNITS], TENS, first="units", joiner="und")


def pushed(number, at, stays):
    """Return what a number becomes when a row is put in ahead of the row at; stays: whether arrows to it stay."""
    return number if number < at or (stays and number == at) else number + 1


def row_put_in(rng, rows, at, row):
    """Return rows with one more, ahead of the row at; some arrows lead to the new row, some past it."""
    told = []
    for old in rows:
        ends = tuple(pushed(number, at, rng.random() < 0.6) for number in old[-1])
        told.append(old[:2] + tuple(pushed(number, at, True) for number in old[2:-1]) + (ends,))
    return told[:at - 1] + [row] + told[at - 1:]


def changed_rows(rng, form, rows):
    """Return rows with some arrows turned, some rows doubled, and some rows that look put in."""
    rows = list(rows)
    for _ in range(rng.randint(0, 4)):
        if not rows:
            break
        act, at, many = rng.choice(("arrow", "look", "idle", "double")), rng.randint(1, len(rows)), len(rows)
        if act == "arrow":
            ends = list(rows[at - 1][-1])
            ends[rng.randrange(len(ends))] = rng.randint(at + 1, many + 1)
            rows[at - 1] = rows[at - 1][:-1] + (tuple(ends),)
            continue
        name, kind, _ = rng.choice(form.questions)
        far = min(many + 2, at + (1 if act == "idle" else 3))
        ends = tuple(rng.randint(at + 1, far) for _ in answers_of(kind))
        rows = row_put_in(rng, rows, at, ("look", name, rng.randint(at + 1, far), ends))
        if act == "double":
            rows[at - 1] = rows[at]
            if any(number < at + 2 for number in rows[at][2:-1] + rows[at][-1]):
                rows[at - 1] = ("look", name, at + 1, (at + 1,) * len(ends))
    return rows


def right_booklet(rng, form):
    """Return a booklet that leads right and has only rows that ask, often not the least one."""
    booklet = least_booklet(form)
    for _ in range(4):
        if len(booklet) and rng.random() < 0.7:
            at = rng.randint(1, len(booklet))
            rows = row_put_in(rng, booklet.rows, at, None)
            rows[at - 1] = rows[at]
            doubled = Booklet(form, rows)
            if fault(doubled) is None:
                booklet = doubled
    return booklet


def random_issue(rng, form):
    """Return an issue of a form."""
    booklet = right_booklet(rng, form)
    return Issue(booklet, random_pages(rng, len(booklet)))


def random_string(rng, most=12):
    """Return a string that may stand in a text."""
    return "".join(rng.choice("abc  ,.'/<>:~!") for _ in range(rng.randint(0, most)))


def random_pieces(rng, kinds, depth=0):
    """Return pieces over these questions."""
    pieces = []
    for _ in range(rng.randint(0, 4)):
        counts = [name for name in kinds if kinds[name][0] == "count"]
        picks = [name for name in kinds if kinds[name][0] != "count"]
        words = ["text", "text"] + ["label"] * bool(picks) + ["figures", "words", "by"] * bool(counts)
        word = rng.choice(words + ["if"] * (depth < 3))
        pieces.append({
            "text": lambda: random_string(rng),
            "label": lambda: ("label", rng.choice(picks)),
            "figures": lambda: ("figures", rng.choice(counts)),
            "words": lambda: ("words", rng.choice(counts)),
            "by": lambda: ("by", rng.choice(counts), (random_string(rng), random_string(rng))),
            "if": lambda: (
                "if", random_condition(rng, kinds, 1) if kinds else ALWAYS,
                random_pieces(rng, kinds, depth + 1), random_pieces(rng, kinds, depth + 1),
            ),
        }[word]())
    return tuple(pieces)


def random_texts(rng, form):
    """Return a dict with a text for each question."""
    texts, ahead = {}, {}
    places = {name: place for place, name in enumerate(form.names)}
    for name, kind in kinds_in(form).items():
        texts[name] = random_pieces(rng, ahead)
        while len(on_paper(texts[name], places)) > 600:
            texts[name] = random_pieces(rng, ahead)
        ahead[name] = kind
    return texts


def plain_labels(form):
    """Return a dict with labels for each pick and tick."""
    return {
        name: tuple(f"{name} no {box}" for box in range(kind[1]))
        for name, kind in kinds_in(form).items() if kind[0] != "count"
    }


def tongue_of(form, texts=None, labels=None, words=WORDS, numerals=NUMERALS, classes=ONE_OR_MORE):
    """Return a tongue; without texts each question is asked by its name."""
    return Tongue(
        form, numerals=numerals, classes=classes,
        texts={name: (f"What about {name}",) for name in form.names} if texts is None else texts,
        labels=plain_labels(form) if labels is None else labels, words=words,
    )
