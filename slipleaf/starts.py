"""Starts: all ways to come to a question, told by the values of some questions ahead of it."""

from slipleaf.conditions import all_names, truth
from slipleaf.flows import flow_to, truths_of
from slipleaf.kinds import answers_of


class Starts:
    """The beginnings of records that come to a question and ask it, told apart by what some questions have there.

    Starts are numbered in the order of the first records that begin so.
    """

    def __init__(self, form, name, watched):
        self.form = form
        place = form.place_of(name)
        need = form.questions[place][2]
        # All that could change which of the watched values can come about, or whether the question is asked.
        self.questions = _questions_behind(form.questions[:place], list(watched) + all_names(need))
        names = [question[0] for question in self.questions]
        kept = [other for other in names if other in watched or other in all_names(need)]
        self.flow, columns = flow_to(self.questions, kept)
        many = len(self.flow[-1][1])
        asked = truths_of(need, columns, many)
        self.states = [state for state in range(many) if asked[state]]
        # For each of these names its value in each start.
        self.columns = {other: [columns[other][state] for state in self.states] for other in kept}

    def many(self):
        """Return how many starts there are."""
        return len(self.states)

    def record_at(self, number):
        """Return the first record that has the start of this number."""
        told = self._first_values(self.states[number])
        values = {}
        for name, kind, need in self.form.questions:
            if name in told:
                values[name] = told[name]
            else:
                values[name] = answers_of(kind)[0] if truth(need, values) else None
        return tuple([values[name] for name in self.form.names])

    def _first_values(self, state):
        """Return the values of the questions of the flow with which its first record comes to a state of its end."""
        values = {}
        for place in range(len(self.questions) - 1, -1, -1):
            name, kind, _ = self.questions[place]
            _, marks, ways = self.flow[place]
            # Ways are in the order in which states first take them.
            mark = [number for number, way in enumerate(ways) if state in way[1]][0]
            asked, targets = ways[mark]
            values[name] = answers_of(kind)[targets.index(state)] if asked else None
            state = marks.index(mark)
        return values


def _questions_behind(questions, names):
    """Return those of the questions that have these names, or that the needs of such ones name, and so on."""
    wanted = {name: True for name in names}
    found = []
    for question in questions[::-1]:
        if question[0] in wanted:
            found.append(question)
            for name in all_names(question[2]):
                wanted[name] = True
    return found[::-1]
