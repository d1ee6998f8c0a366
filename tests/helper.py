"""What the tests share."""

import unittest

ALWAYS = ("always",)


class Agreeing:
    """A thing that is equal to everything, also to words and numbers."""

    def __eq__(self, other):
        return True

    def __hash__(self):
        return 0


# Things that are no integer, no name, no tuple, or none of these.
ODD_THINGS = (
    None, True, False, 1.0, 1.5, "", "1", "pick", b"pick", (), [], {}, set(), object(), int, len,
    ("",), (None,), ((),), ([],), (1,), (True,), {"pick": 2}, 10 ** 29, -(10 ** 29), Agreeing(), (Agreeing(),),
    (Agreeing(), 2), (Agreeing(), 0, 9), (Agreeing(), "a"), (Agreeing(), "a", (0,)), (Agreeing(), "a", 0, 9),
    (Agreeing(), ("always",)), (Agreeing(), ("always",), ()), (Agreeing(), "a", ("pick", 2), ("always",)),
)


class LeafCase(unittest.TestCase):
    """A test case that can ask for one error with its arguments."""

    def assert_error(self, wanted, call, *args, **more):
        """Fail unless the call raises this very error: its class alone, and its attributes."""
        with self.assertRaises(type(wanted)) as caught:
            call(*args, **more)
        self.assertIs(type(caught.exception), type(wanted))
        self.assertEqual(repr(vars(caught.exception)), repr(vars(wanted)))


def deep(depth, core=()):
    """Return tuples nested so deep around a core."""
    thing = core
    for _ in range(depth):
        thing = (thing,)
    return thing


def nots(count, core=ALWAYS):
    """Return a condition within so many nots."""
    condition = core
    for _ in range(count):
        condition = ("not", condition)
    return condition


def ask(name, kind=("pick", 2), condition=ALWAYS):
    """Return an item that asks."""
    return ("ask", name, kind, condition)
