"""Reports over all records of a form, lawful or not: what is asked, and which checks are needed."""

from slipleaf.errors import Unknown
from slipleaf.flows import flow_of
from slipleaf.nodes import NOWHERE, first_record, merged


def never_asked(form):
    """Return the names of the questions that are asked in no record."""
    return tuple([name for name, asked in _askings(form) if True not in asked])


def always_asked(form):
    """Return the names of the questions that are asked in all records."""
    return tuple([name for name, asked in _askings(form) if False not in asked])


def _askings(form):
    """Return each name with, for each way at its place, whether it is asked there."""
    flow = flow_of(form.questions, ())
    return [(name, [way[0] for way in ways]) for name, (_, _, ways) in zip(form.names, flow)]


def first_asked(form, name):
    """Return the first record in which a question is asked, or None."""
    return _first_fitting(form, ((name, form.place_of(name), form.need_of(name)),))


def shown_by(form, name):
    """Return the first record for which this check fails and no other does, or None."""
    if name not in [check[0] for check in form.checks]:
        raise Unknown(name)
    turned = [
        (other, place, ("not", condition)) if other == name else (other, place, condition)
        for other, place, condition in form.checks
    ]
    return _first_fitting(form, tuple(turned))


def _first_fitting(form, checks):
    """Return the first record for which none of these checks fails, or None."""
    layers, firsts = merged([flow_of(form.questions, checks)])
    if firsts[0] == NOWHERE:
        return None
    return first_record(form.questions, layers, firsts[0])


def needless_checks(form):
    """Return the names of the checks without which the same records would be lawful."""
    lone = _lone_failures(form)
    return tuple([check[0] for number, check in enumerate(form.checks) if (lone >> number) & 1 == 0])


def _lone_failures(form):
    """Return the checks that are the only ones to fail for some record: the sum of 2 ** k over their numbers."""
    flow = flow_of(form.questions, form.checks)
    # For each state: 1 if it is reached without a failed check, and 2 ** (k + 1) if with k alone.
    fates = [1]
    for place in range(len(form)):
        failed, marks, ways = flow[place]
        by_way = [0] * len(ways)
        for bits, mark, fate in zip(failed, marks, fates):
            by_way[mark] = by_way[mark] | _fate_behind(fate, bits)
        fates = [0] * len(flow[place + 1][1])
        for (_, targets), fate in zip(ways, by_way):
            for target in targets:
                fates[target] = fates[target] | fate
    total = 0
    for bits, fate in zip(flow[-1][0], fates):
        total = total | _fate_behind(fate, bits)
    return total >> 1


def _fate_behind(fate, failed):
    """Return what a fate becomes where these checks fail."""
    if failed == 0:
        return fate
    # A number is a power of 2 just if it has no bit in common with the one below it.
    if fate & 1 == 1 and failed & (failed - 1) == 0:
        return failed << 1
    return 0
