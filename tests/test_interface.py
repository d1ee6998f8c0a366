"""What the interface lists: each name in its file, with the arguments that are told."""

import importlib
import inspect
import unittest

FUNCTIONS = {
    "kinds": {
        "is_kind": "thing", "answers_of": "kind", "size_of": "kind", "is_answer": "kind thing",
        "is_content": "kind thing",
        "slips_between": "kind answer content", "ticked": "kind content",
    },
    "conditions": {
        "is_name": "thing", "is_full_name": "thing", "is_condition": "thing", "length_of": "condition",
        "names_in": "condition", "holds": "condition told", "renamed": "condition names",
    },
    "rounds": {"unrolled": "items"},
    "records": {
        "record_of": "form person", "is_record": "form thing", "asked_in": "form record",
        "failing_checks": "form record",
        "is_lawful": "form record", "person_of": "form record",
    },
    "writing": {"write_condition": "condition", "write_items": "items", "write_form": "form"},
    "reading": {"read_condition": "text", "read_items": "text", "read_form": "text"},
    "compare": {"same_questions": "first second", "parting": "first second"},
    "reports": {
        "never_asked": "form", "always_asked": "form", "first_asked": "form name", "needless_checks": "form",
        "shown_by": "form name",
    },
}
CLASSES = {
    "forms.Form": {
        "__init__": "items", "place_of": "name", "kind_of": "name", "need_of": "name", "live_at": "place",
        "weight_at": "place",
        "__len__": "", "__contains__": "name", "__iter__": "", "__eq__": "other",
    },
    "walks.Walk": {
        "__init__": "form", "answer": "value", "back": "", "failing": "", "copy": "", "__eq__": "other",
    },
    "groups.Group": {
        "__and__": "other", "__or__": "other", "__sub__": "other", "__invert__": "", "__eq__": "other", "__bool__": "",
        "__contains__": "record", "many": "", "first": "", "nth": "number", "rank": "record", "records": "",
        "told": "name",
        "having": "name value", "settled": "", "within": "other", "rests": "place",
    },
    "booklets.Booklet": {
        "__init__": "form rows", "__getitem__": "number", "__len__": "", "__iter__": "", "__eq__": "other",
        "way": "person",
        "asked": "person", "first_look": "",
    },
}
STATIC = {"groups.Group": {"every": "form", "lawful": "form", "of": "form condition", "listed": "form records"}}
PROPERTIES = {
    "forms.Form": ("flat",), "walks.Walk": ("due", "given", "so_far"), "groups.Group": ("size",),
    "booklets.Booklet": ("end",),
}


def arguments(function):
    """Return the names of all arguments of a function that are passed by position, with a blank between them."""
    told = inspect.signature(function).parameters.values()
    return " ".join(one.name for one in told if one.kind is one.POSITIONAL_OR_KEYWORD and one.default is one.empty)


def class_of(path):
    """Return the class that stands in a file."""
    module, name = path.split(".")
    return getattr(importlib.import_module("slipleaf." + module), name)


class Interface(unittest.TestCase):
    def test_functions(self):
        for module, functions in FUNCTIONS.items():
            for name, told in functions.items():
                with self.subTest(name):
                    function = getattr(importlib.import_module("slipleaf." + module), name)
                    self.assertEqual(function.__module__, "slipleaf." + module)
                    self.assertEqual(arguments(function), told)

    def test_methods_stand_in_their_class(self):
        for path, methods in CLASSES.items():
            for name, told in methods.items():
                with self.subTest(path + "." + name):
                    self.assertEqual(class_of(path).__module__, "slipleaf." + path.split(".")[0])
                    self.assertEqual(arguments(vars(class_of(path))[name]), f"self {told}".strip())

    def test_static_methods(self):
        for path, methods in STATIC.items():
            for name, told in methods.items():
                self.assertIs(type(vars(class_of(path))[name]), staticmethod)
                self.assertEqual(arguments(getattr(class_of(path), name)), told)

    def test_properties(self):
        for path, names in PROPERTIES.items():
            for name in names:
                self.assertIs(type(vars(class_of(path))[name]), property)
                self.assertIsNone(vars(class_of(path))[name].fset)

    def test_records_of_a_group_are_a_generator(self):
        self.assertTrue(inspect.isgeneratorfunction(class_of("groups.Group").records))

    def test_attributes_are_there_from_the_beginning(self):
        form = class_of("forms.Form")(())
        for thing, names in (
            (form, ("source", "names", "questions", "checks")),
            (class_of("groups.Group").every(form), ("form", "table")),
            (class_of("booklets.Booklet")(form, ()), ("form", "rows")),
        ):
            self.assertLessEqual(set(names), set(vars(thing)))


if __name__ == "__main__":
    unittest.main()
