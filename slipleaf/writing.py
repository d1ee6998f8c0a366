"""Writing: conditions and items as the words and lines of a source text."""

from slipleaf.conditions import ALWAYS, is_condition
from slipleaf.errors import BadCondition
from slipleaf.rounds import check_built

INDENT = "  "


def write_condition(condition):
    """Return a condition as it is written, with one blank between its words."""
    if not is_condition(condition):
        raise BadCondition()
    return " ".join(_condition_words(condition))


def write_items(items):
    """Return the text of items."""
    check_built(items)
    return "\n".join(_item_lines(items, ""))


def write_form(form):
    """Return the text of a form, from its items as they were passed."""
    return write_items(form.source)


def _condition_words(condition):
    """Return the list of the words of what is known to be a condition."""
    word = condition[0]
    if word == "not":
        return [word] + _condition_words(condition[1])
    if word in ("and", "or"):
        return _bracket_words(word, condition[1:])
    if word == "sum":
        return [word] + list(condition[1]) + ["to", str(condition[2]), str(condition[3])]
    if word == "is":
        return [word, condition[1]] + [str(answer) for answer in condition[2]]
    return [str(part) for part in condition]


def _bracket_words(word, parts):
    """Return the words of a bracket, with this word between its parts."""
    words = ["("]
    for part in parts:
        words.extend(_condition_words(part))
        words.append(word)
    # What stands behind the last part is the other bracket instead.
    words[-1] = ")"
    return words


def _item_lines(items, ahead):
    """Return the lines of items, each with these blanks ahead."""
    lines = []
    for item in items:
        lines.append(ahead + " ".join(_item_words(item)))
        if item[0] in ("part", "each"):
            lines.extend(_item_lines(item[2], ahead + INDENT))
            lines.append(ahead + "end")
    return lines


def _item_words(item):
    """Return the words of the line with which an item begins."""
    word = item[0]
    if word == "ask":
        asked = [word, item[1]] + [str(part) for part in item[2]]
        return asked if item[3] == ALWAYS else asked + ["when"] + _condition_words(item[3])
    if word == "check":
        return [word, item[1]] + _condition_words(item[2])
    if word == "part":
        return [word] + _condition_words(item[1])
    if word == "each":
        return [word, item[1]]
    return list(item)
