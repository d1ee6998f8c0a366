"""What counts as a number within bounds."""


def is_within(thing, low, high):
    """Tell whether this is an integer from low to high; True and False are none."""
    return isinstance(thing, int) and not isinstance(thing, bool) and low <= thing <= high


def is_span(low, high, top):
    """Tell whether these are integers with 0 <= low <= high <= top."""
    return is_within(low, 0, top) and is_within(high, low, top)


def is_ascending(thing, low, high):
    """Tell whether this is a tuple of ascending integers from low to high."""
    if not isinstance(thing, tuple) or not all([is_within(number, low, high) for number in thing]):
        return False
    return all([first < second for first, second in zip(thing, thing[1:])])
