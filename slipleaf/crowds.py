"""Crowds: sets of persons of a form, told without listing them, and what they become by steps.

A crowd has a layer of nodes for each place; the answers of a person lead from the first node of the
first layer through one node of each layer to the end. A node is a tuple of triples
`(lead, toll, answers)`: with each of these answers persons go on to the node `lead` of the next
layer (0 at the end), and pay a toll, from 0 on. An answer may lead to several nodes. From each node
on there is somebody who pays nothing: what all pay who come there is paid ahead of it.
"""

from slipleaf.kinds import answers_of, size_of
from slipleaf.turns import answers_behind


class Crowd:
    """A set of persons; base: what the one pays who pays least, or None if there is nobody.

    layers: those told above, but nodes may be alike, lead to nobody, and let everybody pay; the
    nodes of the last one lead to ends, each of which has a toll.
    """

    def __init__(self, layers, ends):
        told = []
        # For each node behind: its number there, and what all pay who come there; None if that is nobody.
        fates = [(0, toll) for toll in ends]
        for layer in layers[::-1]:
            numbers = {}
            found = []
            for raw in layer:
                node, least = _tidied(raw, fates)
                found.append((numbers.setdefault(node, len(numbers)), least) if node else None)
            told.append(list(numbers))
            fates = found
        self.layers = told[::-1]
        self.base = None if fates[0] is None else fates[0][1]

    def without(self, place):
        """Return the crowd in which the question at a place is left out."""
        ahead, layer, behind = self.layers[:place], self.layers[place], self.layers[place + 1:]
        if not behind:
            # At each node of the last layer there is an answer for which nothing is paid.
            return Crowd(ahead, [self.base] * len(layer))
        passed = [
            [(lead, toll + more, answers) for at, toll, _ in node for lead, more, answers in behind[0][at]]
            for node in layer
        ]
        return Crowd(ahead + [passed] + behind[1:], [self.base])

    def with_any(self, place, answers):
        """Return the crowd in which one more question, ahead of that at a place, has any of these answers."""
        many = len(self.layers[place]) if place < len(self.layers) else 1
        free = [((at, 0, answers),) for at in range(many)]
        return Crowd(self.layers[:place] + [free] + self.layers[place:], [self.base])

    def turned_at(self, place, becoming):
        """Return the crowd in which answers at a place become those that a dict has for them."""
        layer = [
            [(lead, toll, [new for old in answers for new in becoming.get(old, ())]) for lead, toll, answers in node]
            for node in self.layers[place]
        ]
        return Crowd(self.layers[:place] + [layer] + self.layers[place + 1:], [self.base])

    def paired(self, place, many):
        """Return the crowd in which two questions become one; the second one has so many answers."""
        layer = [
            [
                (lead, toll + more, [answer * many + other for answer in answers for other in others])
                for at, toll, answers in node for lead, more, others in self.layers[place + 1][at]
            ]
            for node in self.layers[place]
        ]
        return Crowd(self.layers[:place] + [layer] + self.layers[place + 2:], [self.base])

    def divided(self, place, many):
        """Return the crowd in which a question becomes two; the second one has so many answers."""
        upper, lower = [], []
        for node in self.layers[place]:
            quotients = sorted(set([answer // many for _, _, answers in node for answer in answers]))
            upper.append([(len(lower) + at, 0, (quotient,)) for at, quotient in enumerate(quotients)])
            for quotient in quotients:
                lower.append([
                    (lead, toll, [answer % many for answer in answers if answer // many == quotient])
                    for lead, toll, answers in node
                ])
        return Crowd(self.layers[:place] + [upper, lower] + self.layers[place + 1:], [self.base])

    def moved(self, order):
        """Return the crowd with its questions in another order, a list of their places."""
        layers = list(self.layers)
        places = list(range(len(order)))
        for target, place in enumerate(order):
            at = places.index(place)
            places.insert(target, places.pop(at))
            for upper in range(at - 1, target - 1, -1):
                width = len(layers[upper + 2]) if upper + 2 < len(layers) else 1
                layers[upper], layers[upper + 1] = _exchanged_layers(layers[upper], layers[upper + 1], width)
        return Crowd(layers, [self.base])

    def persons(self):
        """Return the list of all persons, ascending, as tuples are compared."""
        found = [] if self.base is None else [((), (0,))]
        for layer in self.layers:
            onward = []
            for person, nodes in found:
                leads = leads_from(layer, nodes)
                onward.extend([(person + (answer,), leads[answer]) for answer in sorted(leads)])
            found = onward
        return [person for person, _ in found]


def crowd_of(told):
    """Return a crowd; told: for each place a list of pairs of a toll and answers."""
    return Crowd([[[(0, toll, answers) for toll, answers in pairs]] for pairs in told], [0])


def crowd_behind(crowd, form, step):
    """Return what a crowd of persons of a form becomes by a step that can be taken."""
    word = step[0]
    if crowd.base is None or word in ("rename", "need", "check", "uncheck"):
        return crowd
    if word == "move":
        return crowd.moved([form.place_of(name) for name in step[1]])
    if word == "add":
        return crowd.with_any(step[1], answers_of(step[3]))
    place = form.place_of(step[1])
    if word == "drop":
        return crowd.without(place)
    if word == "pair":
        return crowd.paired(place, size_of(form.kind_of(step[2])))
    if word == "divide":
        return crowd.divided(place, step[4])
    return crowd.turned_at(place, answers_behind(form.questions[place][1], step))


def leads_from(layer, nodes):
    """Return a dict from each answer that is given at some nodes to the tuple of the nodes to which it leads."""
    told = {}
    for at in nodes:
        for lead, _, answers in layer[at]:
            for answer in answers:
                told.setdefault(answer, []).append(lead)
    return {answer: tuple(sorted(set(leads))) for answer, leads in told.items()}


def _tidied(raw, fates):
    """Return the node that raw triples make, and what all pay who come to it; an empty tuple if that is nobody."""
    tolls = {}
    for lead, toll, answers in raw:
        if fates[lead] is not None:
            number, more = fates[lead]
            for answer in answers:
                key = (number, answer)
                tolls[key] = min(toll + more, tolls.get(key, toll + more))
    if not tolls:
        return (), 0
    least = min(list(tolls.values()))
    groups = {}
    for number, answer in sorted(tolls):
        groups.setdefault((number, tolls[(number, answer)] - least), []).append(answer)
    return tuple([(number, toll, tuple(groups[(number, toll)])) for number, toll in sorted(groups)]), least


def _exchanged_layers(upper, lower, width):
    """Return two layers for the questions of two layers the other way round; width: how many nodes are behind."""
    if len(lower) == 1 and width == 1:
        # The two questions have nothing to do with one another.
        return [tuple([(at, toll, told) for _, toll, told in lower[0]]) for at in range(len(upper))], upper
    ends = [(at, 0) for at in range(width)]
    numbers = {}
    above = []
    for node in upper:
        ways = [(lead, toll + more, answers, others) for at, toll, answers in node for lead, more, others in lower[at]]
        # For each answer of the lower question the ways that have it.
        open_to = {}
        for number, way in enumerate(ways):
            for other in way[3]:
                open_to.setdefault(other, []).append(number)
        alike = {}
        for other in sorted(open_to):
            alike.setdefault(tuple(open_to[other]), []).append(other)
        raw = []
        for taken, others in alike.items():
            below, least = _tidied([ways[number][:3] for number in taken], ends)
            raw.append((numbers.setdefault(below, len(numbers)), least, others))
        above.append(_tidied(raw, [(at, 0) for at in range(len(numbers))])[0])
    return above, list(numbers)
