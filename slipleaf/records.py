"""Persons and records: what a walk through a form asks, and which checks fail.

The function check_person is for the other files.
"""

from slipleaf.conditions import truth
from slipleaf.errors import BadPerson, BadRecord
from slipleaf.kinds import answers_of, is_answer


def record_of(form, person):
    """Return the record of a person."""
    check_person(form, person)
    values = {}
    for (name, _, need), answer in zip(form.questions, person):
        values[name] = answer if truth(need, values) else None
    return tuple(values.values())


def check_person(form, person):
    """Raise BadPerson if this is no person of the form."""
    if not isinstance(person, tuple) or len(person) != len(form):
        raise BadPerson(-1)
    for place, question in enumerate(form.questions):
        if not is_answer(question[1], person[place]):
            raise BadPerson(place)


def is_record(form, thing):
    """Tell whether this is a record of the form."""
    if not isinstance(thing, tuple) or len(thing) != len(form):
        return False
    values = {}
    for (name, kind, need), value in zip(form.questions, thing):
        if truth(need, values):
            if not is_answer(kind, value):
                return False
        elif value is not None:
            return False
        values[name] = value
    return True


def asked_in(form, record):
    """Return the names of the questions that were asked, in the form's order."""
    _demand_record(form, record)
    return tuple([name for name, value in zip(form.names, record) if value is not None])


def failing_checks(form, record):
    """Return the names of the checks that fail for a record, in their order."""
    _demand_record(form, record)
    values = dict(zip(form.names, record))
    return tuple([check[0] for check in form.checks if not truth(check[2], values)])


def is_lawful(form, record):
    """Tell whether no check fails for a record."""
    return not failing_checks(form, record)


def person_of(form, record):
    """Return the person with a record's answers, and the least answer where none was asked."""
    _demand_record(form, record)
    return tuple([
        answers_of(question[1])[0] if value is None else value
        for question, value in zip(form.questions, record)
    ])


def _demand_record(form, record):
    """Raise BadRecord if this is no record of the form."""
    if not is_record(form, record):
        raise BadRecord(0)
