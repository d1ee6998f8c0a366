"""Trees: questions that are asked one after the other, until one of some records is left."""

from slipleaf.errors import BadRecord, Stray
from slipleaf.lots import check_few
from slipleaf.records import is_record


class Tree:
    """The shallowest tree for some records."""

    def __init__(self, form, records):
        check_few(form, records)
        self.form = form
        self._leaves = tuple(records)
        depths = _depths_of(self._leaves)
        everything = (1 << len(self._leaves)) - 1
        self._depth = depths[everything][0]
        self._root = _tree_told(form.names, self._leaves, depths, everything)

    @property
    def depth(self):
        """The most questions that are asked until one record is left."""
        return self._depth

    def __len__(self):
        return len(self._leaves)

    def __call__(self, record):
        """Return the names that are asked, in order, if each is answered with this record's value."""
        if not is_record(self.form, record):
            raise BadRecord(0)
        names = []
        tree = self._root
        while tree[0] == "ask":
            _, name, branches = tree
            value = record[self.form.place_of(name)]
            onward = [branch for told, branch in branches if told == value]
            if not onward:
                raise Stray(name)
            names.append(name)
            tree = onward[0]
        return tuple(names)

    def told(self):
        """Return the tree as tuples."""
        return self._root


def _depths_of(records):
    """Return a dict from sets of records to the least depth of a tree for them, and the place that it asks first.

    A set is told as the sum of 2 ** k over the numbers k of its records. All sets are there that
    come of answers to some questions.
    """
    splits = [_parts_of([record[place] for record in records]) for place in range(len(records[0]))]
    depths = {}
    stack = [(1 << len(records)) - 1]
    while stack:
        left = stack[-1]
        if left in depths:
            stack.pop()
            continue
        if left & (left - 1) == 0:
            depths[left] = (0, None)
            continue
        parted = [[left & part for part in parts if left & part] for parts in splits]
        missing = [part for parts in parted if len(parts) > 1 for part in parts if part not in depths]
        if missing:
            stack.extend(missing)
        else:
            depths[left] = _shallowest(depths, parted)
    return depths


def _parts_of(values):
    """Return the sets of the records that have the same value, by value: None first, then ascending."""
    parts = {}
    for number, value in enumerate(values):
        parts[value] = parts.get(value, 0) | (1 << number)
    return [parts[value] for value in _in_order(list(parts))]


def _in_order(values):
    """Return different values, None first, then ascending."""
    return [value for value in values if value is None] + sorted([value for value in values if value is not None])


def _shallowest(depths, parted):
    """Return the least depth of a tree, and the first place with which a tree has it."""
    best = None
    for place, parts in enumerate(parted):
        if len(parts) > 1:
            depth = 1 + max([depths[part][0] for part in parts])
            if best is None or depth < best[0]:
                best = (depth, place)
    return best


def _tree_told(names, records, depths, left):
    """Return the tree for a set of records, as tuples."""
    told = [record for number, record in enumerate(records) if (left >> number) & 1 == 1]
    place = depths[left][1]
    if place is None:
        return ("is", told[0])
    branches = []
    for value in _in_order(list({record[place]: True for record in told})):
        part = sum([1 << number for number, record in enumerate(records)
                    if (left >> number) & 1 == 1 and record[place] == value])
        branches.append((value, _tree_told(names, records, depths, part)))
    return ("ask", names[place], tuple(branches))
