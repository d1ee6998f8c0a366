"""Flows: all walks through a form at once, told by what is still to be looked at.

A state of a place stands for all beginnings that are alike in the values of the questions that
are live there; there are never more states than the weight of the place. A flow has a triple
`(failed, marks, ways)` for each place, and for the end:
- failed: for each state, the checks that fail there, as the sum of 2 ** k over their numbers k;
- marks: for each state, the number of the way on which it goes on;
- ways: pairs `(asked, targets)`: whether the question of the place is asked, and the states of
  the next place to which its answers lead, ascending; just one if all lead to the same.
At the end there is the one way END. State 0 of place 0 is where all walks begin.
"""

from slipleaf.conditions import ALWAYS
from slipleaf.forms import last_uses
from slipleaf.kinds import answers_of

END = (False, ())


def flow_of(questions, checks):
    """Return the flow of these questions, with these checks."""
    flow, _, _ = _flow_and_end(questions, checks)
    return flow


def flow_to(questions, names):
    """Return the flow of questions at whose end the values of these names tell states apart.

    Also, for each of the names, its values in the states of the end. In each place the states are
    in the order of the first records that come to them.
    """
    condition = ("and", ALWAYS) + tuple([("asked", name) for name in names])
    flow, kept, rows = _flow_and_end(questions, (("", len(questions), condition),))
    return flow, _columns_of(kept, rows)


def _flow_and_end(questions, checks):
    """Return a flow, and for the states of its end the names that are live there and the rows of their values."""
    last = last_uses(questions, checks)
    names, rows = [], [()]
    flow = []
    for place, question in enumerate(questions):
        columns = _columns_of(names, rows)
        failed = _failed_at(place, checks, columns, len(rows))
        lasting = [name for name in names if last[name] > place]
        stays = last.get(question[0], 0) > place
        marks, ways, rows = _ways_on(question, columns, len(rows), lasting, stays)
        names = lasting + [question[0]] if stays else lasting
        flow.append((failed, marks, ways))
    failed = _failed_at(len(questions), checks, _columns_of(names, rows), len(rows))
    flow.append((failed, [0] * len(rows), [END]))
    return flow, names, rows


def unchecked(flow):
    """Return the flow in which no check fails."""
    return [([0] * len(failed), marks, ways) for failed, marks, ways in flow]


def _columns_of(names, rows):
    """Return a dict from each name to its values in all states."""
    return dict(zip(names, list(zip(*rows))))


def _failed_at(place, checks, columns, many):
    """Return, for each state of a place, the checks that fail there."""
    failed = [0] * many
    for number, (_, at, condition) in enumerate(checks):
        if at == place:
            truths = truths_of(condition, columns, many)
            failed = [bits if fine else bits | (1 << number) for bits, fine in zip(failed, truths)]
    return failed


def _ways_on(question, columns, many, lasting, stays):
    """Return the marks and ways of a place, and the rows of values of the states behind it.

    lasting: the names of the earlier questions that are live behind it; stays: whether the
    question itself is.
    """
    _, kind, need = question
    answered = [(answer,) for answer in answers_of(kind)] if stays else [()]
    passed = [(None,)] if stays else [()]
    lasting_columns = [columns[name] for name in lasting]
    behind = list(zip(*lasting_columns)) if lasting else [()] * many
    numbers = {}
    states = {}
    marks = []
    ways = []
    for key in zip(behind, truths_of(need, columns, many)):
        if key not in numbers:
            row, asked = key
            numbers[key] = len(ways)
            targets = []
            for end in (answered if asked else passed):
                targets.append(states.setdefault(row + end, len(states)))
            ways.append((asked, tuple(targets)))
        marks.append(numbers[key])
    return marks, ways, list(states)


def truths_of(condition, columns, many):
    """Return, for each of so many states, whether a condition holds there."""
    word = condition[0]
    if word == "always":
        return [True] * many
    if word == "not":
        return [not fine for fine in truths_of(condition[1], columns, many)]
    if word == "and":
        parts = [truths_of(part, columns, many) for part in condition[1:]]
        return [all(row) for row in zip(*parts)]
    if word == "or":
        parts = [truths_of(part, columns, many) for part in condition[1:]]
        return [any(row) for row in zip(*parts)]
    if word == "sum":
        columns_summed = [columns[name] for name in condition[1]]
        return _sums_within(columns_summed, condition[2], condition[3])
    return _plain_truths(condition, columns)


def _sums_within(columns, low, high):
    """Return, for each state, whether the values that are not None have a sum within bounds."""
    sums = [sum([value for value in row if value is not None]) for row in zip(*columns)]
    return [low <= total <= high for total in sums]


def _plain_truths(condition, columns):
    """Return, for each state, whether a condition over one question, or two that are the same, holds."""
    word = condition[0]
    column = columns[condition[1]]
    if word == "asked":
        return [value is not None for value in column]
    if word == "is":
        answers = condition[2]
        return [value in answers for value in column]
    if word == "has":
        box = condition[2]
        return [value is not None and (value >> box) & 1 == 1 for value in column]
    if word == "same":
        return [value == other for value, other in zip(column, columns[condition[2]])]
    low, high = condition[2], condition[3]
    return [value is not None and low <= value <= high for value in column]
