"""Comparing two forms: whether they part in what they ask, or in which records are lawful."""

from slipleaf.errors import Unlike
from slipleaf.flows import flow_of, unchecked
from slipleaf.kinds import answers_of
from slipleaf.nodes import LOST, NOWHERE, evened, merged


def same_questions(first, second):
    """Tell whether two forms have the same names and kinds of questions, in the same order."""
    return [question[:2] for question in first.questions] == [question[:2] for question in second.questions]


def parting(first, second):
    """Return how two forms with the same questions part; None if they do not."""
    if not same_questions(first, second):
        raise Unlike()
    flows = [flow_of(form.questions, form.checks) for form in (first, second)]
    layers, (one, other) = merged([unchecked(flow) for flow in flows])
    if one != other:
        return _parting_in_asking(first, layers, (one, other))
    layers, (one, other) = merged(flows)
    if one != other:
        return ("checks", _first_apart(first.questions, layers, (one, other)))
    return None


def _parting_in_asking(form, layers, pair):
    """Return the parting of two different nodes of place 0."""
    # For each pair of nodes that the same answers reach, the best of these answers.
    reached = {pair: ()}
    best = None
    for place, question in enumerate(form.questions):
        onward = {}
        for (one, other), given in list(reached.items()):
            node, beside = layers[place][one], layers[place][other]
            if node[0] == beside[0]:
                for ahead, more in _apart_ahead(node, beside, answers_of(question[1])):
                    if ahead not in onward or _is_sooner(given + more, onward[ahead]):
                        onward[ahead] = given + more
            elif best is None or _is_sooner(given, best[0]):
                best = (given, place, one, other)
        reached = onward
    answers, parted, first, second = best
    return ("asks", answers, _asked_next(form, layers, parted, first), _asked_next(form, layers, parted, second))


def _is_sooner(given, other):
    """Tell whether answers are fewer than others, or as many and the first of them."""
    return (len(given), given) < (len(other), other)


def _apart_ahead(node, beside, answers):
    """Return the pairs of different nodes to which two nodes lead, each with the answer given, if any."""
    leads, others = evened(node[1], beside[1])
    given = [(answer,) for answer in answers] if node[0] or beside[0] else [()]
    # Where all answers lead to one pair of nodes, this takes the first answer alone.
    ways = list(zip(leads, others, given))
    # Alike nodes are one node, and behind one nothing parts.
    return [((lead, other), more) for lead, other, more in ways if lead != other]


def _asked_next(form, layers, place, number):
    """Return the name of the question that is asked next, from a node on; None if no more is."""
    for name, layer in zip(form.names[place:], layers[place:]):
        asked, leads = layer[number]
        if asked:
            return name
        number = leads[0]
    return None


def _first_apart(questions, layers, pair):
    """Return the first record that is behind just one of two different nodes of place 0."""
    values = []
    for question, layer in zip(questions, layers):
        node, beside = [LOST if number == NOWHERE else layer[number] for number in pair]
        pair, given = _apart_ahead(node, beside, answers_of(question[1]))[0]
        values.append(given[0] if given else None)
    return tuple(values)
