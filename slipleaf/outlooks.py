"""Outlooks: in which of some groups the records are that a house may have, without listing them.

A spot of a place is a tuple: the node of the lawful records, the row that asks next, and for each
group its node, or NOWHERE if no record of the group begins so. A choice is a pair `(row, picks)`:
the numbers, from 0, of the answers with which walks go on alike from one spot to another, none if
all answers do; the row 0 stands for passing a question, and has its place as the only pick.
"""

from slipleaf.nodes import NOWHERE, first_node


class Outlook:
    """All ways of lawful records through the rows of an issue, with the groups in which they are."""

    def __init__(self, issue, groups):
        self.issue = issue
        self.groups = [group.nodes for group in groups]
        layers, first = issue.lawful_layers
        spots = [(first, 1) + tuple([first_node(nodes) for nodes in self.groups])]
        # The keys are the choices.
        self.choices = {}
        # How many spots the next place has, and for each spot the pairs of a choice and the next spot; for each place
        # at which not all walks go on alike, because what all pay makes no difference.
        self.ways = []
        for place, layer in enumerate(layers[:-1]):
            numbers = {}
            told = []
            for spot in spots:
                onward = self._ways_passed(place, spot) if not layer[spot[0]][0] else self._ways_asked(place, spot)
                told.append([
                    (self.choices.setdefault(choice, len(self.choices)), numbers.setdefault(further, len(numbers)))
                    for further, choice in onward.items()
                ])
            if not _are_alike(told):
                self.ways.append((len(numbers), told))
            spots = list(numbers)
        # For each spot of the end, for each group whether the records are in it.
        self.ends = [tuple([int(node != NOWHERE) for node in spot[2:]]) for spot in spots]

    def seen_by(self, prices, extra):
        """Return the list of the ends of all records with at most so many slips more than the fewest."""
        costs = [0]
        told = [_price_of(prices, row, picks) for row, picks in self.choices]
        for many, ways in self.ways:
            onward = [None] * many
            for cost, pairs in zip(list(costs), ways):
                for choice, further in pairs:
                    total = cost + told[choice]
                    if onward[further] is None or total < onward[further]:
                        onward[further] = total
            costs = onward
        least = min(costs)
        return [end for end, cost in zip(self.ends, costs) if cost <= least + extra]

    def _ways_passed(self, place, spot):
        """Return the spot behind a question that is passed, as a dict with its choice."""
        lead = self.issue.lawful_layers[0][place][spot[0]][1][0]
        onward = [_leads_of(nodes[place], node)[0] for nodes, node in zip(self.groups, spot[2:])]
        return {(lead, spot[1]) + tuple(onward): (0, (place,))}

    def _ways_asked(self, place, spot):
        """Return a dict from the spots behind a question that is asked to the choices that lead there."""
        arrows = self.issue.booklet.rows[spot[1] - 1][2]
        arrows = arrows[:1] if arrows.count(arrows[0]) == len(arrows) else arrows
        several = [self.issue.lawful_layers[0][place][spot[0]][1], arrows]
        several.extend([_leads_of(nodes[place], node) for nodes, node in zip(self.groups, spot[2:])])
        size = max([len(leads) for leads in several])
        evened = [leads * (size // len(leads)) for leads in several]
        picks = {}
        for number, further in enumerate(list(zip(*evened))):
            if further[0] != NOWHERE:
                picks.setdefault(further, []).append(number)
        return {further: (spot[1], tuple(numbers) if size > 1 else ()) for further, numbers in picks.items()}


def _are_alike(told):
    """Tell whether walks go on from all spots with one choice, each to the spot of its own number."""
    return told == [[(told[0][0][0], number)] for number in range(len(told))]


def _leads_of(layer, node):
    """Return where a node of a group leads; nowhere if there is none."""
    return layer[node][1] if node != NOWHERE else (NOWHERE,)


def _price_of(prices, row, picks):
    """Return the least price of a choice; no picks are all answers of the row."""
    if row == 0:
        return prices.passed[picks[0]]
    told = prices.rows[row - 1]
    return min(told) if len(told) == 1 or not picks else min([told[number] for number in picks])
