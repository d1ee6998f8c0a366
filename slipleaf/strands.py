"""Strands: which answers to some questions go together, told without listing them.

A strand has a layer of nodes for each of its questions, in order; answers lead from the first node
of the first layer through one node of each layer to the end. A node is a tuple of triples
`(lead, toll, answers)`: with each of these answers one goes on to the node `lead` of the next layer
(0 at the end), and pays a toll, from 0 on. An answer may lead to several nodes. From each node on
somebody pays nothing: what all pay who come there is paid ahead of it.

The functions that change layers return some that need not be as told here: their nodes may be alike,
lead to nobody, and let everybody pay. The function tidied makes a strand of these.
"""


def tidied(layers, many):
    """Return the layers of a strand that has so many ends, and what all pay; None for this if there is nobody."""
    told = []
    # For each node behind: its number there, and what all pay who come there; None if that is nobody.
    fates = [(0, 0)] * many
    for layer in layers[::-1]:
        numbers = {}
        found = []
        for raw in layer:
            node, least = _tidied_node(raw, fates)
            found.append((numbers.setdefault(node, len(numbers)), least) if node else None)
        told.append(list(numbers))
        fates = found
    return told[::-1], None if fates[0] is None else fates[0][1]


def cut_at(layers):
    """Return for how many questions each a strand can be cut into strands that have nothing to do with one another."""
    lengths = []
    for layer in layers:
        if len(layer) == 1:
            lengths.append(1)
        else:
            lengths[-1] = lengths[-1] + 1
    return lengths


def without_layer(layers, at):
    """Return the layers of a strand in which one question, but not the last one, is left out."""
    passed = [
        [(lead, toll + more, answers) for number, toll, _ in node for lead, more, answers in layers[at + 1][number]]
        for node in layers[at]
    ]
    return layers[:at] + [passed] + layers[at + 2:]


def turned_layer(layers, at, becoming):
    """Return the layers of a strand in which answers to one question become those that a dict has for them."""
    turned = [
        [(lead, toll, [new for old in answers for new in becoming.get(old, ())]) for lead, toll, answers in node]
        for node in layers[at]
    ]
    return layers[:at] + [turned] + layers[at + 1:]


def paired_layers(layers, at, many):
    """Return the layers of a strand in which two questions become one; the second one has so many answers."""
    paired = [
        [
            (lead, toll + more, [answer * many + other for answer in answers for other in others])
            for number, toll, answers in node for lead, more, others in layers[at + 1][number]
        ]
        for node in layers[at]
    ]
    return layers[:at] + [paired] + layers[at + 2:]


def divided_layer(layers, at, many):
    """Return the layers of a strand in which one question becomes two; the second one has so many answers."""
    upper, lower = [], []
    for node in layers[at]:
        quotients = sorted(set([answer // many for _, _, answers in node for answer in answers]))
        upper.append([(len(lower) + number, 0, (quotient,)) for number, quotient in enumerate(quotients)])
        for quotient in quotients:
            lower.append([
                (lead, toll, [answer % many for answer in answers if answer // many == quotient])
                for lead, toll, answers in node
            ])
    return layers[:at] + [upper, lower] + layers[at + 1:]


def ordered_layers(layers, order):
    """Return the layers of a strand with its questions in another order, a list of their numbers."""
    layers = list(layers)
    numbers = list(range(len(order)))
    for target, number in enumerate(order):
        at = numbers.index(number)
        numbers.insert(target, numbers.pop(at))
        for upper in range(at - 1, target - 1, -1):
            width = len(layers[upper + 2]) if upper + 2 < len(layers) else 1
            layers[upper], layers[upper + 1] = _exchanged_layers(layers[upper], layers[upper + 1], width)
    return layers


def merged_layers(first, second):
    """Return the layers of the questions of two strands, both pairs of ascending places and layers, by place."""
    layers = []
    ways = [(0, 0)]
    for place in sorted(first[0] + second[0]):
        numbers = {}
        layer = []
        for one, other in ways:
            if place in first[0]:
                node = first[1][first[0].index(place)][one]
                pairs = [(lead, other) for lead, _, _ in node]
            else:
                node = second[1][second[0].index(place)][other]
                pairs = [(one, lead) for lead, _, _ in node]
            layer.append([
                (numbers.setdefault(pair, len(numbers)), toll, answers) for pair, (_, toll, answers) in zip(pairs, node)
            ])
        layers.append(layer)
        ways = list(numbers)
    return layers


def leads_from(layer, nodes):
    """Return a dict from each answer that is given at some nodes to the tuple of the nodes to which it leads."""
    told = {}
    for at in nodes:
        for lead, _, answers in layer[at]:
            for answer in answers:
                told.setdefault(answer, []).append(lead)
    return {answer: tuple(sorted(set(leads))) for answer, leads in told.items()}


def _tidied_node(raw, fates):
    """Return the node that raw triples make, and what all pay who come to it; an empty tuple if that is nobody."""
    tolls = {}
    for lead, toll, answers in raw:
        if fates[lead] is not None:
            number, more = fates[lead]
            for answer in answers:
                key = (number, answer)
                tolls[key] = min(toll + more, tolls.get(key, toll + more))
    if not tolls:
        return (), 0
    least = min(list(tolls.values()))
    groups = {}
    for number, answer in sorted(tolls):
        groups.setdefault((number, tolls[(number, answer)] - least), []).append(answer)
    return tuple([(number, toll, tuple(groups[(number, toll)])) for number, toll in sorted(groups)]), least


def _exchanged_layers(upper, lower, width):
    """Return two layers for the questions of two layers the other way round; width: how many nodes are behind."""
    ends = [(at, 0) for at in range(width)]
    numbers = {}
    above = []
    for node in upper:
        ways = [(lead, toll + more, answers, others) for at, toll, answers in node for lead, more, others in lower[at]]
        # For each answer of the lower question the ways that have it.
        open_to = {}
        for number, way in enumerate(ways):
            for other in way[3]:
                open_to.setdefault(other, []).append(number)
        alike = {}
        for other in sorted(open_to):
            alike.setdefault(tuple(open_to[other]), []).append(other)
        raw = []
        for taken, others in alike.items():
            below, least = _tidied_node([ways[number][:3] for number in taken], ends)
            raw.append((numbers.setdefault(below, len(numbers)), least, others))
        above.append(_tidied_node(raw, [(at, 0) for at in range(len(numbers))])[0])
    return above, list(numbers)
