"""Nodes: the rests of a group, each with where its answers lead.

A node is a pair `(asked, leads)`: whether the question of its place is asked, and for each of its
answers, ascending, the number of the node of the next place to which it leads, or NOWHERE if no
record goes on so; just one number if all answers lead to the same node, or if none is asked. The
one node of the end is END. Layers are the lists of the nodes of all places, from 0 to the end. In
each layer all nodes are different, and each leads somewhere: so each is a rest of its own.

The functions here change nothing but what they made, because operators of groups call them.
"""

from slipleaf.errors import TooMany
from slipleaf.flows import END, flow_of
from slipleaf.kinds import answers_of

NOWHERE = -1
NO_PAIR = (-1, -1)
# What stands for the node where there is none.
LOST = (False, (-1,))
MOST_RESTS = 3000


def merged(flows):
    """Return the layers of the nodes of flows over alike questions, and each flow's first node.

    States from which walks that no check fails go on alike become one node, also across flows.
    A failed check of a flow leads nowhere. There may be nodes that no walk reaches.
    """
    layers = []
    # For each flow, the nodes of the states of the next place; NOWHERE leads to the last item.
    below = [[] for _ in flows]
    for place in reversed(range(len(flows[0]))):
        numbers = {}
        for at, flow in enumerate(flows):
            failed, marks, ways = flow[place]
            found = []
            for asked, targets in ways:
                node = packed(asked, tuple([below[at][target] for target in targets]))
                found.append(numbers.setdefault(node, len(numbers)) if node else NOWHERE)
            fates = [NOWHERE if bits else found[mark] for bits, mark in zip(failed, marks)]
            below[at] = fates + [NOWHERE]
        layers.append(list(numbers))
    return layers[::-1], [fates[0] for fates in below]


def layers_of_lawful(form):
    """Return the layers of the nodes of all lawful records of a form, and the first node."""
    layers, firsts = merged([flow_of(form.questions, form.checks)])
    return layers, firsts[0]


def packed(asked, leads):
    """Return the node that leads so; an empty tuple if it leads nowhere at all."""
    if leads and leads.count(leads[0]) == len(leads):
        leads = leads[:1]
    return () if leads == (NOWHERE,) else (asked, leads)


def numbered(layers, first):
    """Return just the nodes behind a first one, as tuples, numbered in the order of [16]."""
    told = []
    many = 0
    order = [] if first == NOWHERE else [first]
    for layer in layers:
        many = many + len(order)
        if many > MOST_RESTS:
            raise TooMany("rest")
        numbers = {}
        for old in order:
            for lead in layer[old][1]:
                if lead != NOWHERE and lead not in numbers:
                    numbers[lead] = len(numbers)
        nodes = []
        for old in order:
            asked, leads = layer[old]
            nodes.append((asked, tuple([numbers.get(lead, NOWHERE) for lead in leads])))
        told.append(tuple(nodes))
        order = list(numbers)
    return tuple(told)


def first_node(nodes):
    """Return the number of the first node of numbered layers: NOWHERE for the empty group."""
    return 0 if nodes[0] else NOWHERE


def joined(one, other, word):
    """Return the layers and the first node of `one and other`, `one or other`, or `one but other`.

    Both are pairs of layers and a first node. Only pairs that walks reach are looked at, and each
    node that is made is a rest of what comes out: so it ends soon if there are too many of them.
    """
    known = [{NO_PAIR: NOWHERE} for _ in one[0]]
    if word == "but":
        known[-1][(0, 0)] = NOWHERE
    numbers = [{} for _ in one[0]]
    many = 0
    first = _kept_pair(word, one[1], other[1])
    stack = [(0, first)]
    while stack:
        place, pair = stack[-1]
        if pair in known[place]:
            stack.pop()
            continue
        asked, pairs = _pairs_on(word, _node_at(one[0][place], pair[0]), _node_at(other[0][place], pair[1]))
        missing = [(place + 1, onward) for onward in pairs if onward not in known[place + 1]]
        if missing:
            stack.extend(missing)
            continue
        node = packed(asked, tuple([known[place + 1][onward] for onward in pairs]))
        if node and node not in numbers[place]:
            numbers[place][node] = len(numbers[place])
            many += 1
        if many > MOST_RESTS:
            raise TooMany("rest")
        known[place][pair] = numbers[place][node] if node else NOWHERE
    return [list(row) for row in numbers], known[0][first]


def _kept_pair(word, number, other):
    """Return a pair of nodes, or NO_PAIR if nothing behind it can be in what is joined."""
    if (number == NOWHERE and word != "or") or (other == NOWHERE and word == "and"):
        return NO_PAIR
    return (number, other)


def _node_at(layer, number):
    """Return the node of this number, or what stands for it where there is none."""
    return LOST if number == NOWHERE else layer[number]


def _pairs_on(word, node, other):
    """Return whether two nodes ask, and the pairs to which their answers lead."""
    leads, others = evened(node[1], other[1])
    asked = node[0] or other[0]
    if word == "and":
        return asked, [(a, b) if a != NOWHERE and b != NOWHERE else NO_PAIR for a, b in zip(leads, others)]
    if word == "but":
        return asked, [(a, b) if a != NOWHERE else NO_PAIR for a, b in zip(leads, others)]
    return asked, list(zip(leads, others))


def evened(leads, others):
    """Return the leads of two nodes, both with as many numbers as one of them has."""
    if len(leads) < len(others):
        return leads * len(others), others
    if len(others) < len(leads):
        return leads, others * len(leads)
    return leads, others


def is_inside(one, other):
    """Tell whether all records behind the first node of numbered layers are behind the other's."""
    pairs = [] if first_node(one) == NOWHERE else [(0, first_node(other))]
    for layer, beside in zip(one, other):
        found = {}
        for number, at in pairs:
            if at == NOWHERE:
                return False
            leads, others = evened(layer[number][1], beside[at][1])
            for pair in zip(leads, others):
                if pair[0] != NOWHERE:
                    found[pair] = True
        pairs = list(found)
    return True


def listed_layers(questions, records):
    """Return the layers of the group of what is known to be records, and its first node."""
    layers = [[END]]
    many = 1
    # The node of each beginning of one length.
    found = {record: 0 for record in records}
    for place in reversed(range(len(questions))):
        answers = answers_of(questions[place][1])
        onward = {}
        for beginning, number in found.items():
            onward.setdefault(beginning[:-1], {})[beginning[-1]] = number
        numbers = {}
        found = {}
        for beginning, leads in onward.items():
            node = _node_of(leads, answers)
            found[beginning] = numbers.setdefault(node, len(numbers))
        many = many + len(numbers)
        if many > MOST_RESTS:
            raise TooMany("rest")
        layers.append(list(numbers))
    return layers[::-1], found.get((), NOWHERE)


def _node_of(onward, answers):
    """Return the node at which each value that is a key leads to the node that it has."""
    if None in onward:
        return (False, (onward[None],))
    return packed(True, tuple([onward.get(answer, NOWHERE) for answer in answers]))


def narrowed(questions, nodes, place, value):
    """Return the layers and the first node of the records with an answer, or None, at a place."""
    answers = answers_of(questions[place][1])
    layers = [list(layer) for layer in nodes]
    layers[place] = [_only(node, answers, value) for node in layers[place]]
    merged_layers, firsts = merged([[([0] * len(layer), list(range(len(layer))), layer) for layer in layers]])
    return merged_layers, firsts[0]


def _only(node, answers, value):
    """Return a node of which just one value leads on; it need not be packed."""
    asked, leads = node
    if value is None:
        return LOST if asked else node
    if not asked:
        return LOST
    leads, _ = evened(leads, answers)
    return (True, tuple([lead if answer == value else NOWHERE for answer, lead in zip(answers, leads)]))


def table_of(questions, nodes):
    """Return the table that tells numbered layers as [17] has it."""
    table = []
    for question, layer in zip(questions, nodes):
        answers = answers_of(question[1])
        table.append(tuple([_moves_of(node, answers) for node in layer]))
    table.append(tuple([() for _ in nodes[-1]]))
    return tuple(table)


def _moves_of(node, answers):
    """Return the pairs of a value and the number to which it leads."""
    asked, leads = node
    if not asked:
        return ((None, leads[0]),)
    leads, _ = evened(leads, answers)
    return tuple([(answer, lead) for answer, lead in zip(answers, leads) if lead != NOWHERE])


def first_record(questions, layers, first):
    """Return the first record behind a first node that leads somewhere."""
    values = []
    number = first
    for question, layer in zip(questions, layers):
        value, number = _moves_of(layer[number], answers_of(question[1]))[0]
        values.append(value)
    return tuple(values)


def first_records(questions, layers, first, most):
    """Return the first records behind a first node, so many of them if there are more."""
    found = []
    ahead = [] if first == NOWHERE else [((), first)]
    while ahead and len(found) < most:
        values, number = ahead.pop()
        place = len(values)
        if place == len(questions):
            found.append(values)
        else:
            # The last one of these is the next one that is looked at.
            moves = _moves_of(layers[place][number], answers_of(questions[place][1]))
            ahead.extend([(values + (value,), lead) for value, lead in moves[::-1]])
    return found
