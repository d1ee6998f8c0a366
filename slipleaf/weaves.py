"""Weaves: the nodes of a group made from keys, of which only those that walks come to are looked at."""

from slipleaf.errors import TooMany
from slipleaf.nodes import MOST_RESTS, NOWHERE, packed


class Weave:
    """Makes layers of nodes (slipleaf/nodes.py); what its keys are is told by the classes under it."""

    def __init__(self, many):
        # For each of so many layers, the number of the node of each key, and that of each node.
        self.known = [{} for _ in range(many)]
        self.numbers = [{} for _ in range(many)]
        # What keys_behind tells of the keys that are to be made.
        self.behind = {}
        self.nodes_made = 0

    def keys_behind(self, place, key):
        """Return whether a question is asked, and for each of its answers the key of the next place, or ()."""
        raise NotImplementedError(f"no keys behind {key!r} at place {place!r}")

    def layers_from(self, first):
        """Return the layers of the group, and its first node; first: its key, or () for the empty group."""
        if first == ():
            return [[] for _ in self.numbers], NOWHERE
        stack = [(0, first)]
        while stack:
            place, key = stack[-1]
            if key in self.known[place]:
                stack.pop()
                continue
            if (place, key) not in self.behind:
                self.behind[(place, key)] = self.keys_behind(place, key)
            _, keys = self.behind[(place, key)]
            missing = [(place + 1, onward) for onward in keys if onward and onward not in self.known[place + 1]]
            if missing:
                stack.extend(missing)
            else:
                self._make(place, key)
        return [list(row) for row in self.numbers], self.known[0][first]

    def _make(self, place, key):
        """Make the node of a key, if it leads somewhere; those behind it are there."""
        asked, keys = self.behind.pop((place, key))
        node = packed(asked, tuple([self.known[place + 1][onward] if onward else NOWHERE for onward in keys]))
        if node and node not in self.numbers[place]:
            self.numbers[place][node] = len(self.numbers[place])
            # Walks come to each key, so each node is a rest of the group.
            self.nodes_made += 1
            if self.nodes_made > MOST_RESTS:
                raise TooMany("rest")
        self.known[place][key] = self.numbers[place][node] if node else NOWHERE
