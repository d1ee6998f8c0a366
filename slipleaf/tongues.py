"""Tongues: the words, labels and texts in which the questions of one form are asked."""

from slipleaf.conditions import ALWAYS
from slipleaf.errors import BadAnswer, BadRecord, BadTongue, BadUse, NotAsked, Unknown
from slipleaf.flows import truths_of
from slipleaf.forms import fits_standing
from slipleaf.kinds import answers_of, is_answer, ticked
from slipleaf.pieces import is_text, names_of, on_paper
from slipleaf.records import is_record
from slipleaf.signs import is_letters, is_signs
from slipleaf.starts import Starts

MANY_WORDS = 5
PLACE_OF_ANY = 3
LONGEST_WORD = 10
LONGEST_LABEL = 40
MOST_ON_PAPER = 600


class Tongue:
    """The words, labels and texts with which one form is asked."""

    def __init__(self, form, *, numerals, classes, texts, labels, words):
        picked = [name for name, kind, _ in form.questions if kind[0] != "count"]
        if not _are_words(words) or not _are_among(texts, form.names) or not _are_among(labels, picked):
            raise BadTongue("")
        self.form = form
        self.numerals = numerals
        self.classes = classes
        self.words = words
        self._places = {name: place for place, name in enumerate(form.names)}
        self._texts = dict(texts)
        self._labels = dict(labels)
        self._papers = {}
        for name in form.names:
            self._check_question(name)
            self._papers[name] = on_paper(self._texts[name], self._places)
            if len(self._papers[name]) > MOST_ON_PAPER:
                raise BadTongue(name)

    def _check_question(self, name):
        """Raise BadTongue if the text or the labels of a question are missing or wrong."""
        place, kind = self._places[name], self.form.kind_of(name)
        kinds = {other: behind for other, behind, _ in self.form.questions[:place]}
        if name not in self._texts or not is_text(self._texts[name], kinds, len(self.classes)):
            raise BadTongue(name)
        # Only what this check names matters, not how many words it has.
        naming = ("and", ALWAYS) + tuple([("asked", other) for other in names_of(self._texts[name])])
        if not fits_standing(self.form.questions, self.form.checks + (("", place, naming),)):
            raise BadTongue(name)
        if kind[0] != "count" and (name not in self._labels or not _are_labels(self._labels[name], kind[1])):
            raise BadTongue(name)

    def label(self, name, answer):
        """Return the label that stands for an answer."""
        kind = self.form.kind_of(name)
        if kind[0] == "count":
            raise BadUse(name)
        if not is_answer(kind, answer):
            raise BadAnswer(name)
        labels = [self._labels[name][box] for box in ticked(kind, answer)]
        if len(labels) == 1:
            return labels[0]
        return ", ".join(labels[:-1]) + f" {self.words[-1]} " + labels[-1]

    def box_labels(self, name):
        """Return the labels of the boxes of a question, none for a count."""
        return self._labels.get(name, ())

    def wording(self, name, record):
        """Return the wording of a question in a record in which it is asked."""
        place = self.form.place_of(name)
        if not is_record(self.form, record):
            raise BadRecord(0)
        if record[place] is None:
            raise NotAsked(name)
        columns = {other: [value] for other, value in zip(self.form.names, record)}
        said, lost = self._said(self._texts[name], columns, 1)
        if lost[0] is not None:
            raise NotAsked(lost[0])
        return said[0]

    def paper_text(self, name):
        """Return the text of a question as it is printed for everybody."""
        if name not in self._papers:
            raise Unknown(name)
        return self._papers[name]

    def flaws(self):
        """Tell all flaws: the question, the one at which its wording fails, and the first such record."""
        for name in self.form.names:
            starts, _, lost = self._everywhere(name)
            failing = [number for number, failed in enumerate(lost) if failed is not None]
            if failing:
                yield (name, lost[failing[0]], starts.record_at(failing[0]))

    def longest(self, name):
        """Return the most signs that a wording of the question has, and the first such record, or None."""
        self.form.place_of(name)
        starts, said, lost = self._everywhere(name)
        sizes = [len(wording) if failed is None else -1 for wording, failed in zip(said, lost)]
        most = max(sizes, default=-1)
        if most < 0:
            return None
        return (most, starts.record_at(sizes.index(most)))

    def _everywhere(self, name):
        """Return the starts that ask a question, the wording in each, and the question at which it fails there."""
        starts = Starts(self.form, name, names_of(self._texts[name]))
        said, lost = self._said(self._texts[name], starts.columns, starts.many())
        return starts, said, lost

    def _said(self, pieces, columns, many):
        """Return, for each of so many starts, what pieces say, and the question at which they fail, or None.

        columns: for each name its values in all starts.
        """
        said, lost = [""] * many, [None] * many
        for piece in pieces:
            more, failed = self._piece_said(piece, columns, many)
            said = [first + second for first, second in zip(said, more)]
            lost = [second if first is None else first for first, second in zip(lost, failed)]
        return said, lost

    def _piece_said(self, piece, columns, many):
        """Return the same for one piece."""
        if isinstance(piece, str):
            return [piece] * many, [None] * many
        if piece[0] == "if":
            truths = truths_of(piece[1], columns, many)
            then, lost = self._said(piece[2], columns, many)
            other, failed = self._said(piece[3], columns, many)
            said = [first if fine else second for fine, first, second in zip(truths, then, other)]
            return said, [first if fine else second for fine, first, second in zip(truths, lost, failed)]
        name = piece[1]
        told = {answer: self._value_said(piece, answer) for answer in answers_of(self.form.kind_of(name))}
        lost = [name if value is None else None for value in columns[name]]
        return [told.get(value, "") for value in columns[name]], lost

    def _value_said(self, piece, answer):
        """Return what a piece says for an answer of its question."""
        word, name = piece[:2]
        if word == "label":
            return self.label(name, answer)
        if word == "figures":
            return str(answer)
        if word == "words":
            return self.numerals(answer)
        return piece[2][self.classes.class_of(answer)]


def _are_words(thing):
    """Tell whether these are the five words of a tongue."""
    if not isinstance(thing, tuple) or len(thing) != MANY_WORDS:
        return False
    return all([is_letters(word, 1, LONGEST_WORD) for word in thing]) and len(thing[PLACE_OF_ANY]) > 1


def _are_among(things, names):
    """Tell whether all keys of a dict are among these names."""
    return all([thing in names for thing in things])


def _are_labels(thing, many):
    """Tell whether this is a tuple of labels for so many boxes."""
    return isinstance(thing, tuple) and len(thing) == many and all([_is_label(label) for label in thing])


def _is_label(thing):
    """Tell whether this is a label."""
    return is_signs(thing, 1, LONGEST_LABEL) and thing.strip(" ") == thing and "  " not in thing
