"""Reading: source texts and conditions in words, and the first word that cannot stand there."""

from slipleaf.conditions import ALWAYS, MOST_WORDS, is_full_name, is_name
from slipleaf.errors import BadLine
from slipleaf.forms import Form
from slipleaf.rounds import MOST_AROUND

MOST_PARTS = 6
MOST_SUMMED = 5
MOST_ANSWERS = 15
FIGURES = "0123456789"
# No number that may stand anywhere has more figures than this.
MOST_FIGURES = 3
CONDITION_STARTS = ("always", "asked", "is", "has", "from", "sum", "same", "not", "(")


def read_condition(text):
    """Return the condition that is written in a text of one line."""
    reader = WordReader(_words_of(text), 1)
    condition = reader.take_condition()
    reader.close()
    return condition


def read_items(text):
    """Return the tuple of the items of a source text."""
    lines = text.split("\n")
    items, around = [], []
    for number, line in enumerate(lines, start=1):
        words = _words_of(line)
        if not words or words[0].startswith("#"):
            continue
        reader = WordReader(words, number)
        opened = [start[0] for start, _ in around]
        word = reader.take_start(opened)
        head = reader.take_rest(word, "each" in opened)
        reader.close()
        if word == "end":
            start, outer = around.pop()
            outer.append(start + (tuple(items),))
            items = outer
        elif word in ("part", "each"):
            around.append((head, items))
            items = []
        else:
            items.append(head)
    if around:
        raise BadLine(len(lines) + 1, 1)
    return tuple(items)


def read_form(text):
    """Return the form of the items of a source text."""
    return Form(read_items(text))


def _words_of(line):
    """Return the words of a line."""
    return [word for word in line.split(" ") if word]


def _is_number(word, low, high):
    """Tell whether a word is a number from low to high, written without leading zeros."""
    if not 1 <= len(word) <= MOST_FIGURES or not all([sign in FIGURES for sign in word]):
        return False
    return str(int(word)) == word and low <= int(word) <= high


class WordReader:
    """Goes through the words of one line; a word that cannot stand there is a BadLine."""

    def __init__(self, words, line):
        self.words = words
        self.line = line
        self.at = 0
        # Behind this no word is read: the end of the line, or of what a condition may have.
        self.stop = len(words)

    def here(self):
        """Return the next word, or an empty string if there is none to read."""
        return self.words[self.at] if self.at < self.stop else ""

    def take(self, fits):
        """Go on behind the next word and return it; fits: whether it may stand there."""
        if not fits:
            raise BadLine(self.line, self.at + 1)
        self.at += 1
        return self.words[self.at - 1]

    def take_number(self, low, high):
        """Take a number from low to high."""
        return int(self.take(_is_number(self.here(), low, high)))

    def take_full_name(self):
        """Take a full name."""
        return self.take(is_full_name(self.here()))

    def take_defined(self, rounded):
        """Take the name of a question or check; rounded: in a round."""
        return self.take(is_name(self.here())) if rounded else self.take_full_name()

    def close(self):
        """Raise that the next word is wrong if there is one."""
        if self.at < len(self.words):
            raise BadLine(self.line, self.at + 1)

    def take_start(self, around):
        """Take the first word of a line; around: the words of the parts and rounds around it."""
        words = ["ask", "check", "twice"]
        if around:
            words.append("end")
        if len(around) < MOST_AROUND:
            words.append("part")
            if "each" not in around:
                words.append("each")
        return self.take(self.here() in words)

    def take_rest(self, word, rounded):
        """Take what follows the first word of a line, and return the item so far."""
        if word == "ask":
            name = self.take_defined(rounded)
            return (word, name, self.take_kind(), self.take_when())
        if word == "check":
            name = self.take_defined(rounded)
            return (word, name, self.take_condition())
        if word == "twice":
            name = self.take_full_name()
            return (word, name, self.take_defined(rounded))
        if word == "part":
            return (word, self.take_condition())
        if word == "each":
            return (word, self.take_full_name())
        return (word,)

    def take_kind(self):
        """Take a kind."""
        word = self.take(self.here() in ("pick", "tick", "count"))
        if word == "pick":
            return (word, self.take_number(2, 6))
        if word == "tick":
            return (word, self.take_number(2, 4))
        low = self.take_number(0, 98)
        return (word, low, self.take_number(low + 1, 99))

    def take_when(self):
        """Take the condition of a question, if one is told."""
        if self.at == len(self.words):
            return ALWAYS
        self.take(self.here() == "when")
        return self.take_condition()

    def take_condition(self):
        """Take a whole condition."""
        self.stop = min(len(self.words), self.at + MOST_WORDS)
        condition = self.take_inner()
        self.stop = len(self.words)
        return condition

    def take_inner(self):
        """Take a condition that may be a part of another one."""
        word = self.take(self.here() in CONDITION_STARTS)
        if word == "(":
            return self.take_bracket()
        if word == "not":
            return (word, self.take_inner())
        if word == "always":
            return ALWAYS
        if word == "sum":
            return self.take_sum()
        name = self.take_full_name()
        if word == "asked":
            return (word, name)
        if word == "is":
            return (word, name, self.take_ascending())
        if word == "has":
            return (word, name, self.take_number(0, 3))
        if word == "from":
            low = self.take_number(0, 99)
            return (word, name, low, self.take_number(low, 99))
        return (word, name, self.take(is_full_name(self.here()) and self.here() != name))

    def take_bracket(self):
        """Take what follows an opening bracket, up to the closing one."""
        parts = [self.take_inner()]
        word = self.take(self.here() in ("and", "or"))
        parts.append(self.take_inner())
        while len(parts) < MOST_PARTS and self.here() == word:
            self.take(True)
            parts.append(self.take_inner())
        self.take(self.here() == ")")
        return (word,) + tuple(parts)

    def take_sum(self):
        """Take what follows the word sum."""
        names = [self.take_full_name()]
        while len(names) < MOST_SUMMED and self.here() != "to":
            names.append(self.take(is_full_name(self.here()) and self.here() not in names))
        self.take(self.here() == "to")
        low = self.take_number(0, 495)
        return ("sum", tuple(names), low, self.take_number(low, 495))

    def take_ascending(self):
        """Take the answers of an `is`, as many as stand there."""
        answers = [self.take_number(0, 15)]
        while len(answers) < MOST_ANSWERS and _is_number(self.here(), answers[-1] + 1, 15):
            answers.append(int(self.take(True)))
        return tuple(answers)
