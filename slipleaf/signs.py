"""What counts as a string of signs, or of letters, of some length."""

from slipleaf.conditions import LETTERS

PERCENT = 37


def is_signs(thing, low, high):
    """Tell whether this is a string of at least low and at most high signs."""
    if not isinstance(thing, str) or not low <= len(thing) <= high:
        return False
    return all([" " <= sign <= "~" and ord(sign) != PERCENT for sign in thing])


def is_letters(thing, low, high):
    """Tell whether this is a string of at least low and at most high letters."""
    if not isinstance(thing, str) or not low <= len(thing) <= high:
        return False
    return all([sign in LETTERS for sign in thing])
