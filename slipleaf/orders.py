"""Orders: a form with its questions in another order, and the order with the fewest rows."""

from slipleaf.conditions import all_names
from slipleaf.errors import BadOrder, TooMany
from slipleaf.flows import flow_of
from slipleaf.forms import Form, flat_source
from slipleaf.kinds import size_of
from slipleaf.nodes import merged

MOST_PERSONS = 4096


def needed_ahead(form, name):
    """Return the names that the need of a question names, in the form's order."""
    named = all_names(form.need_of(name))
    return tuple([other for other in form.names if other in named])


def ordered(form, names):
    """Return the form with its questions in this order, and each check as early as it can stand."""
    _check_order(form, names)
    questions = [form.questions[form.place_of(name)] for name in names]
    checks = []
    for check, _, condition in form.checks:
        place = max([list(names).index(name) + 1 for name in all_names(condition)], default=0)
        checks.append((check, place, condition))
    return Form(flat_source(questions, checks))


def orders(form):
    """Tell all orders of a form, in the order of the tuples of their places."""
    ahead = _places_ahead(form)
    yield from _orders_behind(form.names, ahead, ())


def best_order(form):
    """Return the first of the orders in which the least booklet has the fewest rows."""
    persons = 1
    for question in form.questions:
        persons = persons * (size_of(question[1]) + 1)
    if persons > MOST_PERSONS:
        raise TooMany("person")
    # What may stand next, and how many rows it has, depends on which questions stand ahead, not on their order.
    ahead = _places_ahead(form)
    every = range(len(form))
    full = (1 << len(form)) - 1
    fewest, following = {full: 0}, {}
    for mask in range(full - 1, -1, -1):
        taken = [place for place in every if (mask >> place) & 1 == 1]
        free = [place for place in every if place not in taken and _are_among(ahead[place], taken)]
        if all([_are_among(ahead[place], taken) for place in taken]):
            ways = [(_rows_next(form, taken, place) + fewest[mask | (1 << place)], place) for place in free]
            fewest[mask], following[mask] = min(ways)
    names, mask = [], 0
    while mask < full:
        names.append(form.names[following[mask]])
        mask = mask | (1 << following[mask])
    return tuple(names)


def _check_order(form, names):
    """Raise BadOrder unless these names are an order of the form."""
    ahead = []
    for name in names:
        if name not in form or name in ahead or not _are_among(needed_ahead(form, name), ahead):
            raise BadOrder(name)
        ahead.append(name)
    for name in form.names:
        if name not in ahead:
            raise BadOrder(name)


def _are_among(things, others):
    """Tell whether all things are among others."""
    return all([thing in others for thing in things])


def _places_ahead(form):
    """Return, for each question, the list of the places that must stand ahead of it."""
    return [[form.place_of(other) for other in needed_ahead(form, name)] for name in form.names]


def _orders_behind(names, ahead, places):
    """Tell all orders that begin with these places."""
    if len(places) == len(names):
        yield tuple([names[place] for place in places])
    for place in range(len(names)):
        if place not in places and _are_among(ahead[place], places):
            further = places + (place,)
            yield from _orders_behind(names, ahead, further)


def _rows_next(form, taken, place):
    """Return how many rows of the least booklet ask a question that stands right behind those taken."""
    left = [other for other in range(len(form)) if other != place and other not in taken]
    questions = [form.questions[other] for other in taken + [place] + left]
    # Without checks each walk goes on to the end, so all these nodes are rests.
    layers, _ = merged([flow_of(questions, ())])
    return len([asked for asked, _ in layers[len(taken)] if asked])
