"""The errors of Slipleaf: each one stands directly under LeafError."""


class LeafError(ValueError):
    """What all errors of this program are."""


class BadAnswer(LeafError):
    """Something is no answer of the question of this name."""

    def __init__(self, name):
        super().__init__(f"no answer of {name!r}")
        self.name = name


class BadName(LeafError):
    """Something is no name."""

    def __init__(self, name):
        super().__init__(f"no name: {name!r}")
        self.name = name


class BadItem(LeafError):
    """The item of this number, from 0, is not built right."""

    def __init__(self, number):
        super().__init__(f"item {number!r} is not built right")
        self.number = number


class Twice(LeafError):
    """A name is there already."""

    def __init__(self, name):
        super().__init__(f"{name!r} is there already")
        self.name = name


class Unknown(LeafError):
    """Nothing of this name is there."""

    def __init__(self, name):
        super().__init__(f"{name!r} is not known")
        self.name = name


class BadUse(LeafError):
    """The question of this name cannot be used so."""

    def __init__(self, name):
        super().__init__(f"{name!r} cannot be used so")
        self.name = name


class TooLong(LeafError):
    """The need or condition of this question or check is too long."""

    def __init__(self, name):
        super().__init__(f"the condition of {name!r} is too long")
        self.name = name


class TooMany(LeafError):
    """There are too many things of this kind."""

    def __init__(self, kind):
        super().__init__(f"too many of the kind {kind!r}")
        self.kind = kind


class BadLine(LeafError):
    """A text is wrong at this word of this line."""

    def __init__(self, line, word):
        super().__init__(f"line {line!r} is wrong at word {word!r}")
        self.line = line
        self.word = word


class BadPerson(LeafError):
    """A person has no answer at this place; -1 if it is no person at all."""

    def __init__(self, place):
        super().__init__(f"no person, at place {place!r}")
        self.place = place


class BadRecord(LeafError):
    """The element of this number, from 0, is no record."""

    def __init__(self, number):
        super().__init__(f"element {number!r} is no record")
        self.number = number


class BadNumber(LeafError):
    """A number is outside of its bounds."""

    def __init__(self, number):
        super().__init__(f"a number outside of its bounds: {number!r}")
        self.number = number


class BadRow(LeafError):
    """The row of this number is wrong."""

    def __init__(self, number):
        super().__init__(f"row {number!r} is wrong")
        self.number = number


class Misled(LeafError):
    """A booklet leads wrong, behind these answers, at this row."""

    def __init__(self, answers, number):
        super().__init__(f"led wrong behind {answers!r} at row {number!r}")
        self.answers = answers
        self.number = number


class BadOrder(LeafError):
    """The question of this name does not stand in order."""

    def __init__(self, name):
        super().__init__(f"{name!r} does not stand in order")
        self.name = name


class BadNumerals(LeafError):
    """The numerals are wrong at this place."""

    def __init__(self, place):
        super().__init__(f"numerals wrong at place {place!r}")
        self.place = place


class BadRule(LeafError):
    """The rule of this number, from 0, is wrong."""

    def __init__(self, number):
        super().__init__(f"rule {number!r} is wrong")
        self.number = number


class BadTongue(LeafError):
    """What a tongue has for the question of this name is wrong."""

    def __init__(self, name):
        super().__init__(f"the tongue is wrong at {name!r}")
        self.name = name


class NotAsked(LeafError):
    """The question of this name has no answer here."""

    def __init__(self, name):
        super().__init__(f"{name!r} was not asked")
        self.name = name


class BadSize(LeafError):
    """A width or a height is outside of its bounds."""

    def __init__(self, number):
        super().__init__(f"a size outside of its bounds: {number!r}")
        self.number = number


class TooTall(LeafError):
    """The lines of this row do not fit on a page."""

    def __init__(self, row):
        super().__init__(f"row {row!r} does not fit on a page")
        self.row = row


class BadPrint(LeafError):
    """What was printed is wrong at this row."""

    def __init__(self, row):
        super().__init__(f"the print is wrong at row {row!r}")
        self.row = row


class BadPages(LeafError):
    """The page of this row is wrong."""

    def __init__(self, row):
        super().__init__(f"the page of row {row!r} is wrong")
        self.row = row


class BadSheet(LeafError):
    """A sheet is wrong at this row."""

    def __init__(self, row):
        super().__init__(f"the sheet is wrong at row {row!r}")
        self.row = row


class Stray(LeafError):
    """No record that is left has this value at the question of this name."""

    def __init__(self, name):
        super().__init__(f"a stray value at {name!r}")
        self.name = name


class BadStep(LeafError):
    """The step of this number, from 0, is not built right."""

    def __init__(self, number):
        super().__init__(f"step {number!r} is not built right")
        self.number = number


class Needed(LeafError):
    """The question of this name is needed elsewhere."""

    def __init__(self, name):
        super().__init__(f"{name!r} is needed elsewhere")
        self.name = name


class Clash(LeafError):
    """Two different entries have this clerk and this number."""

    def __init__(self, clerk, number):
        super().__init__(f"two entries of {clerk!r} have the number {number!r}")
        self.clerk = clerk
        self.number = number


class BadKind(LeafError):
    """Something is no kind, or not the kind that is asked for."""


class BadContent(LeafError):
    """Something is no content of its kind."""


class BadCondition(LeafError):
    """Something is no condition."""


class Ended(LeafError):
    """Nothing is left to go on to, or to go back to."""


class Unlike(LeafError):
    """Two things are not of one form, or of one issue."""


class NoRecord(LeafError):
    """There is no record."""


class BadPaper(LeafError):
    """A paper is not built right."""


class BadEntry(LeafError):
    """Something is no entry."""
