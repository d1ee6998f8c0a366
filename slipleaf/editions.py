"""Editions: steps that lead from one form to another."""

from slipleaf.errors import BadStep, Unlike
from slipleaf.steps import is_step, taken


class Edition:
    """Some steps, and the forms that they lead from and to."""

    def __init__(self, form, steps=()):
        stages = [form]
        for number, step in enumerate(steps):
            if not is_step(step):
                raise BadStep(number)
            stages.append(taken(stages[-1], step))
        self.old = form
        self.new = stages[-1]
        self.steps = tuple(steps)
        # The form ahead of each step, and that behind the last one.
        self.stages = tuple(stages)

    def then(self, step):
        """Return the edition with one step more."""
        if not is_step(step):
            raise BadStep(len(self.steps))
        return self._longer((taken(self.new, step),), (step,))

    def __add__(self, other):
        if self.new != other.old:
            raise Unlike()
        return self._longer(other.stages[1:], other.steps)

    def __len__(self):
        return len(self.steps)

    def __iter__(self):
        return iter(self.steps)

    def __eq__(self, other):
        return isinstance(other, Edition) and self.old == other.old and self.steps == other.steps

    def _longer(self, stages, steps):
        """Return the edition with more steps, which lead to these forms."""
        made = Edition(self.old)
        made.stages = self.stages + stages
        made.new = made.stages[-1]
        made.steps = self.steps + steps
        return made
