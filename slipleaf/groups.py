"""Groups: sets of records of one form, told by the rests of their beginnings."""

from slipleaf.bounds import is_within
from slipleaf.conditions import is_condition
from slipleaf.errors import BadCondition, BadNumber, BadRecord, TooMany, Unlike
from slipleaf.flows import flow_of
from slipleaf.forms import fits_standing
from slipleaf.kinds import is_answer
from slipleaf.nodes import (
    NOWHERE, first_node, first_record, is_inside, joined, listed_layers, merged, narrowed, numbered, table_of,
)
from slipleaf.records import is_record
from slipleaf.rounds import check_uses


class Group:
    """A set of records of one form; made by the static methods and the operators."""

    def __init__(self, form, nodes):
        self.form = form
        # The numbered layers of slipleaf/nodes.py: what the table tells, in a shorter way.
        self.nodes = nodes
        self.table = table_of(form.questions, nodes)
        # What the property counts tells, once it was asked for.
        self._counts = None

    @staticmethod
    def every(form):
        """Return the group of all records."""
        return _group_of(form, ())

    @staticmethod
    def lawful(form):
        """Return the group of all lawful records."""
        return _group_of(form, form.checks)

    @staticmethod
    def of(form, condition):
        """Return the group of the records for which a condition holds, lawful or not."""
        check_behind(form, condition)
        return _group_of(form, (("", len(form), condition),))

    @staticmethod
    def listed(form, records):
        """Return the group of these records, in any order; each counts once."""
        for number, record in enumerate(records):
            if not is_record(form, record):
                raise BadRecord(number)
        layers, first = listed_layers(form.questions, records)
        return Group(form, numbered(layers, first))

    @property
    def size(self):
        """The number of all rests of all places."""
        return sum([len(rests) for rests in self.table])

    @property
    def counts(self):
        """For each rest of each place, how many records go on so."""
        if self._counts is None:
            self._counts = _counts_of(self.table)
        return self._counts

    def __and__(self, other):
        return _group_joined(self, other, "and")

    def __or__(self, other):
        return _group_joined(self, other, "or")

    def __sub__(self, other):
        return _group_joined(self, other, "but")

    def __invert__(self):
        layers, firsts = merged([flow_of(self.form.questions, ())])
        layers, first = joined((layers, firsts[0]), (self.nodes, first_node(self.nodes)), "but")
        return Group(self.form, numbered(layers, first))

    def __eq__(self, other):
        return isinstance(other, Group) and self.form == other.form and self.table == other.table

    def __bool__(self):
        return bool(self.table[0])

    def __contains__(self, record):
        if not self.table[0] or not isinstance(record, tuple) or len(record) != len(self.form):
            return False
        number = 0
        for value, rests in zip(record, self.table):
            onward = [lead for other, lead in rests[number] if other == value]
            if not onward or not _is_value(value):
                return False
            number = onward[0]
        return True

    def many(self):
        """Return how many records there are."""
        return sum(self.counts[0])

    def first(self):
        """Return the first record, or None."""
        if not self.table[0]:
            return None
        return first_record(self.form.questions, self.nodes, 0)

    def nth(self, number):
        """Return the record of this number, from 0."""
        if not is_within(number, 0, self.many() - 1):
            raise BadNumber(number)
        values = []
        at, left = 0, number
        for rests, behind in zip(self.table, self.counts[1:]):
            # There are more records behind all these moves than are left, so one of them is it.
            for value, lead in rests[at]:
                if left < behind[lead]:
                    break
                left = left - behind[lead]
            values.append(value)
            at = lead
        return tuple(values)

    def rank(self, record):
        """Return the number of a record, from 0."""
        if record not in self:
            raise BadRecord(0)
        at, number = 0, 0
        for value, rests, behind in zip(record, self.table, self.counts[1:]):
            for other, lead in rests[at]:
                if other == value:
                    break
                number = number + behind[lead]
            at = lead
        return number

    def records(self):
        """Tell all records, in order."""
        ahead = [((), number) for number in range(len(self.table[0]))]
        while ahead:
            values, number = ahead.pop()
            if len(values) == len(self.form):
                yield values
            else:
                # The last one of these is the next one that is looked at.
                moves = self.table[len(values)][number][::-1]
                ahead.extend([(values + (value,), lead) for value, lead in moves])

    def told(self, name):
        """Return the different values of a question, None first, then ascending."""
        rests = self.table[self.form.place_of(name)]
        values = [value for moves in rests for value, _ in moves]
        answers = sorted(set([value for value in values if value is not None]))
        return tuple(([None] if None in values else []) + answers)

    def having(self, name, value):
        """Return the group of the records that have this value at a question."""
        place = self.form.place_of(name)
        if value is not None and not is_answer(self.form.kind_of(name), value):
            return Group(self.form, numbered(self.nodes, NOWHERE))
        layers, first = narrowed(self.form.questions, self.nodes, place, value)
        return Group(self.form, numbered(layers, first))

    def settled(self):
        """Return the names of the questions at which all records agree."""
        return tuple([name for name in self.form.names if len(self.told(name)) < 2])

    def within(self, other):
        """Tell whether all records are in the other group."""
        _demand_alike(self, other)
        return is_inside(self.nodes, other.nodes)

    def rests(self, place):
        """Return how many rests a place has."""
        self.form.check_place(place)
        return len(self.table[place])


def check_behind(form, condition):
    """Raise the first error of a condition for which a group is made, up to TooMany("standing")."""
    if not is_condition(condition):
        raise BadCondition()
    check_uses(condition, {name: kind for name, kind, _ in form.questions})
    if not fits_standing(form.questions, form.checks + (("", len(form), condition),)):
        raise TooMany("standing")


def _is_value(thing):
    """Tell whether what is equal to a value is one; 1.0 and True are equal to 1, but they are none."""
    return thing is None or (isinstance(thing, int) and not isinstance(thing, bool))


def _counts_of(table):
    """Return, for each rest of each place of a table, how many records go on so."""
    counts = [(1,) * len(table[-1])]
    for rests in table[-2::-1]:
        behind = counts[-1]
        counts.append(tuple([sum([behind[lead] for _, lead in moves]) for moves in rests]))
    return tuple(counts[::-1])


def _demand_alike(group, other):
    """Raise Unlike unless two groups are of one form."""
    if group.form != other.form:
        raise Unlike()


def _group_of(form, checks):
    """Return the group of the records for which none of these checks fails."""
    layers, firsts = merged([flow_of(form.questions, checks)])
    return Group(form, numbered(layers, firsts[0]))


def _group_joined(group, other, word):
    """Return the group of what is in one group and, or, but not in the other."""
    _demand_alike(group, other)
    layers, first = joined((group.nodes, first_node(group.nodes)), (other.nodes, first_node(other.nodes)), word)
    return Group(group.form, numbered(layers, first))
