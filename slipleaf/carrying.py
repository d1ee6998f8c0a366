"""Carrying: records of an old form turned to lawful records of a new one."""

from slipleaf.crowds import crowd_behind, crowd_of
from slipleaf.errors import BadRecord, NoRecord, TooMany
from slipleaf.groups import Group
from slipleaf.kinds import answers_of
from slipleaf.nodes import NOWHERE, evened, layers_of_lawful, numbered
from slipleaf.records import is_record
from slipleaf.weaves import Weave

MOST_ASKED = 12
# What is paid for a forgotten question, but for a little that is less for later ones.
FORGOTTEN = 4096


def carried(edition, record, *, forgotten=()):
    """Return the group of the lawful records of the new form to which a record is carried."""
    old = edition.old
    if not is_record(old, record):
        raise BadRecord(0)
    for name in forgotten:
        old.place_of(name)
    told = []
    for (name, kind, _), value in zip(old.questions, record):
        free = value is None or name in forgotten
        told.append([(0, answers_of(kind) if free else (value,))])
    weave = CarriedGroup(edition.new, _crowd_by(edition, told))
    layers, first = weave.layers_from(weave.start)
    return Group(edition.new, numbered(layers, first))


def fewest_forgotten(edition, record):
    """Return the fewest questions that, forgotten, let a record be carried; the first ones if several have as few."""
    old = edition.old
    if not is_record(old, record):
        raise BadRecord(0)
    names = [name for name, value in zip(old.names, record) if value is not None]
    if len(names) > MOST_ASKED:
        raise TooMany("question")
    least = _least_toll(edition.new, _crowd_by(edition, _tolls_told(old, record)))
    if least is None:
        raise NoRecord()
    # How much less was paid than for so many questions tells which ones they are.
    less = -least % FORGOTTEN
    return tuple([name for at, name in enumerate(names) if (less >> (MOST_ASKED - 1 - at)) & 1 == 1])


def _tolls_told(old, record):
    """Return, for each place, pairs of a toll and answers: answers other than those of the record are paid for.

    Of as many questions, those that are first, as tuples of places are compared, cost least.
    """
    told = []
    asked = 0
    for (_, kind, _), value in zip(old.questions, record):
        answers = answers_of(kind)
        if value is None:
            told.append([(0, answers)])
        else:
            others = tuple([answer for answer in answers if answer != value])
            told.append([(0, (value,)), (FORGOTTEN - (1 << (MOST_ASKED - 1 - asked)), others)])
            asked += 1
    return told


def _crowd_by(edition, told):
    """Return the crowd of the persons of the new form who are linked to those told for the old one."""
    crowd = crowd_of(told)
    for form, step in zip(edition.stages, edition.steps):
        crowd = crowd_behind(crowd, form, step)
    return crowd


class CarriedGroup(Weave):
    """Makes the group of the lawful records of the persons of a crowd.

    A key is a pair of a node of the lawful records and the spread of those persons of the crowd who
    have the values so far (slipleaf/crowds.py).
    """

    def __init__(self, form, crowd):
        layers, first = layers_of_lawful(form)
        super().__init__(len(layers))
        self.form = form
        self.walks = layers
        self.crowd = _alike_where_unasked(form, layers, crowd)
        self.start = () if first == NOWHERE or crowd.base is None else (first, self.crowd.first_spread())

    def keys_behind(self, place, key):
        """Return whether a question is asked, and the key of the next place for each of its answers."""
        if place == len(self.form):
            return False, []
        node, spread = key
        asked, leads = self.walks[place][node]
        if not asked:
            # Persons have answers here, too, but it does not matter which ones.
            return False, [(leads[0], self.crowd.spread_passed(place, spread))]
        told = self.crowd.spreads_behind(place, spread)
        answers = answers_of(self.form.questions[place][1])
        return True, [
            (lead, told[answer]) if lead != NOWHERE and answer in told else ()
            for answer, lead in zip(answers, evened(leads, answers)[0])
        ]


def _alike_where_unasked(form, layers, crowd):
    """Return a crowd with one and the same answer to each question that is never asked.

    So what hangs together with such a question by its answers alone does not make more keys.
    """
    for place, (_, kind, _) in enumerate(form.questions):
        if place in crowd.ranks and not any([asked for asked, _ in layers[place]]):
            answers = answers_of(kind)
            crowd = crowd.turned_at(place, {answer: answers[:1] for answer in answers})
    return crowd


def _least_toll(form, crowd):
    """Return what the one of a crowd pays who pays least of those with lawful records; None if there is nobody."""
    layers, first = layers_of_lawful(form)
    paid = {} if first == NOWHERE or crowd.base is None else {(first, crowd.outset): crowd.base}
    for place, (_, kind, _) in enumerate(form.questions):
        low = answers_of(kind)[0]
        onward = {}
        for (node, spot), total in list(paid.items()):
            asked, leads = layers[place][node]
            for further, toll, answers in crowd.ways_behind(place, spot):
                onto = leads if not asked or len(leads) == 1 else [leads[answer - low] for answer in answers]
                for number in sorted(set(onto)):
                    pair = (number, further)
                    if number != NOWHERE:
                        onward[pair] = min(total + toll, onward.get(pair, total + toll))
        paid = onward
    return min(list(paid.values()), default=None)
