"""Turns: what answers and conditions become by a step from form to form."""

from slipleaf.conditions import exchanged
from slipleaf.kinds import answers_of


def answers_behind(kind, step):
    """Return a dict from each answer of the kind of a question to those that it becomes, by a step that
    splits or joins its answers, or gives it other bounds; an answer that is missing becomes none.
    """
    answers = answers_of(kind)
    if step[0] == "split":
        _, _, split, parts = step
        more = parts - 1
        told = {answer: (answer,) if answer < split else (answer + more,) for answer in answers}
        told[split] = tuple(range(split, split + parts))
        return told
    if step[0] == "join":
        _, _, first, last = step
        return {answer: (min(answer, max(first, answer - last + first)),) for answer in answers}
    _, _, low, high = step
    return {answer: (answer,) for answer in answers if low <= answer <= high}


def plain_parts(condition):
    """Return the list of the conditions in what is known to be a condition that contain no others."""
    if condition[0] in ("not", "and", "or"):
        return [plain for part in condition[1:] for plain in plain_parts(part)]
    return [condition]


def turned(condition, names, answers):
    """Return a condition with other names, and other answers in each `is`.

    names: a dict from the old names to the new ones; answers: a dict from old names to dicts from
    each answer of the question to those that it becomes.
    """
    return exchanged(_answered(condition, answers), names)


def _answered(condition, answers):
    """Return a condition with other answers in each `is`."""
    word = condition[0]
    if word in ("not", "and", "or"):
        return (word,) + tuple([_answered(part, answers) for part in condition[1:]])
    if word == "is" and condition[1] in answers:
        becoming = answers[condition[1]]
        return (word, condition[1], tuple(sorted(set([new for old in condition[2] for new in becoming[old]]))))
    return condition
