"""Crowds: sets of persons of a form, told without listing them, and what they become by steps.

A crowd has strands (slipleaf/strands.py) that have nothing to do with one another; the question of
each place is in just one of them. A spot tells how far somebody came: for each strand of several
questions the node to which the answers so far lead. A spread tells for each of them the tuple of
all such nodes, ascending.
"""

from slipleaf.kinds import answers_of, size_of
from slipleaf.strands import (
    cut_at, divided_layer, leads_from, merged_layers, ordered_layers, paired_layers, tidied, turned_layer,
    without_layer,
)
from slipleaf.turns import answers_behind


class Crowd:
    """A set of persons.

    base: what the one pays who pays least, or None if there is nobody; strands: a list of pairs of
    the ascending places of the questions of a strand, and its layers.
    """

    def __init__(self, base, strands):
        self.base = base
        self.strands = strands
        # For each place the number of its strand, and its number in it.
        self.homes = {
            place: (number, at) for number, (places, _) in enumerate(strands) for at, place in enumerate(places)
        }
        # For each place in a strand of several questions, which of such strands it is.
        several = [places for places, _ in strands if len(places) > 1]
        self.ranks = {place: rank for rank, places in enumerate(several) for place in places}
        self.outset = (0,) * len(several)

    def without(self, place):
        """Return the crowd in which the question at a place is left out."""
        number, at = self.homes[place]
        places, layers = self.strands[number]
        own = [other - 1 if other > place else other for other in places if other != place]
        if at == len(layers) - 1:
            return self._exchanged([number], (place, -1), own, layers[:at], len(layers[at]))
        return self._exchanged([number], (place, -1), own, without_layer(layers, at), 1)

    def with_any(self, place, answers):
        """Return the crowd in which one more question, ahead of that at a place, has any of these answers."""
        return self._exchanged([], (place - 1, 1), [place], [[[(0, 0, answers)]]], 1)

    def turned_at(self, place, becoming):
        """Return the crowd in which answers at a place become those that a dict has for them."""
        number, at = self.homes[place]
        places, layers = self.strands[number]
        return self._exchanged([number], (place, 0), list(places), turned_layer(layers, at, becoming), 1)

    def paired(self, place, many):
        """Return the crowd in which two questions become one; the second one has so many answers."""
        numbers = sorted(set([self.homes[place][0], self.homes[place + 1][0]]))
        places, layers = self.strands[numbers[0]]
        if len(numbers) > 1:
            layers = merged_layers(self.strands[numbers[0]], self.strands[numbers[1]])
            places = tuple(sorted(places + self.strands[numbers[1]][0]))
        own = [other - 1 if other > place else other for other in places if other != place + 1]
        return self._exchanged(numbers, (place, -1), own, paired_layers(layers, places.index(place), many), 1)

    def divided(self, place, many):
        """Return the crowd in which a question becomes two; the second one has so many answers."""
        number, at = self.homes[place]
        places, layers = self.strands[number]
        own = [other + 1 if other > place else other for other in places]
        return self._exchanged([number], (place, 1), sorted(own + [place + 1]), divided_layer(layers, at, many), 1)

    def moved(self, order):
        """Return the crowd with its questions in another order, a list of their places."""
        onward = {place: at for at, place in enumerate(order)}
        strands = []
        for places, layers in self.strands:
            turned = sorted([(onward[place], at) for at, place in enumerate(places)])
            strands.extend(_cut([place for place, _ in turned], ordered_layers(layers, [at for _, at in turned])))
        return Crowd(self.base, strands)

    def _exchanged(self, gone, shift, own, layers, many):
        """Return the crowd with a strand of these places, layers and so many ends instead of some others.

        shift: a place, and by how much all places behind it change in the strands that stay.
        """
        layers, least = tidied(layers, many)
        if least is None:
            return Crowd(None, [])
        after, by = shift
        strands = [
            (tuple([place + by if place > after else place for place in places]), kept)
            for number, (places, kept) in enumerate(self.strands) if number not in gone
        ]
        return Crowd(self.base + least, strands + _cut(own, layers))

    def first_spread(self):
        """Return the spread of all ahead of the first question."""
        return ((0,),) * len(self.outset)

    def spreads_behind(self, place, spread):
        """Return a dict from each answer that is given at a place to the spread behind it."""
        told = leads_from(self._layer_at(place), self._nodes_in(place, spread))
        return {answer: self._with_rank(place, spread, nodes) for answer, nodes in told.items()}

    def spread_passed(self, place, spread):
        """Return the spread behind a place, whatever the answer is."""
        layer = self._layer_at(place)
        onward = sorted(set([lead for at in self._nodes_in(place, spread) for lead, _, _ in layer[at]]))
        return self._with_rank(place, spread, tuple(onward))

    def ways_behind(self, place, spot):
        """Return the list of triples of the spot behind a place, a toll, and the answers that lead there."""
        node = self._layer_at(place)[spot[self.ranks[place]] if place in self.ranks else 0]
        return [(self._with_rank(place, spot, lead), toll, answers) for lead, toll, answers in node]

    def persons(self):
        """Return the list of all persons, ascending, as tuples are compared."""
        found = [] if self.base is None else [((), self.first_spread())]
        for place in range(len(self.homes)):
            found = [
                (person + (answer,), further)
                for person, spread in found
                for answer, further in sorted(self.spreads_behind(place, spread).items())
            ]
        return [person for person, _ in found]

    def _layer_at(self, place):
        """Return the layer of the question at a place."""
        number, at = self.homes[place]
        return self.strands[number][1][at]

    def _nodes_in(self, place, spread):
        """Return the nodes of the layer at a place that a spread has."""
        return spread[self.ranks[place]] if place in self.ranks else (0,)

    def _with_rank(self, place, told, new):
        """Return a spot or a spread with something else for the strand of a place."""
        if place not in self.ranks:
            return told
        rank = self.ranks[place]
        return told[:rank] + (new,) + told[rank + 1:]


def crowd_of(told):
    """Return a crowd; told: for each place a list of pairs of a toll and answers, the first toll 0."""
    return Crowd(0, [
        ((place,), [[tuple([(0, toll, answers) for toll, answers in pairs])]]) for place, pairs in enumerate(told)
    ])


def crowd_behind(crowd, form, step):
    """Return what a crowd of persons of a form becomes by a step that can be taken."""
    word = step[0]
    if crowd.base is None or word in ("rename", "need", "check", "uncheck"):
        return crowd
    if word == "move":
        return crowd.moved([form.place_of(name) for name in step[1]])
    if word == "add":
        return crowd.with_any(step[1], answers_of(step[3]))
    place = form.place_of(step[1])
    if word == "drop":
        return crowd.without(place)
    if word == "pair":
        return crowd.paired(place, size_of(form.kind_of(step[2])))
    if word == "divide":
        return crowd.divided(place, step[4])
    return crowd.turned_at(place, answers_behind(form.questions[place][1], step))


def _cut(places, layers):
    """Return the strands into which one of these places can be cut."""
    strands = []
    start = 0
    for length in cut_at(layers):
        strands.append((tuple(places[start:start + length]), layers[start:start + length]))
        start = start + length
    return strands
