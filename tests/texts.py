"""Random items and texts for the tests of reading and writing."""

from slipleaf.conditions import is_condition
from tests.helper import ALWAYS

NAMES = ("a", "own", "kids", "abcdefgh", "i", "isa")


def random_name(rng, rounded):
    """Return a name, or a full name outside of rounds."""
    name = rng.choice(NAMES)
    return name if rounded or rng.random() < 0.6 else name + rng.choice("12345")


def random_kind(rng):
    """Return a kind, often one at its bounds."""
    low = rng.choice((0, 0, 7, 98))
    return rng.choice((
        ("pick", rng.choice((2, 6))), ("tick", rng.choice((2, 4))), ("count", low, rng.choice((low + 1, 99))),
    ))


def random_words(rng, depth=3):
    """Return a condition, whatever the kinds of its questions."""
    while True:
        condition = random_attempt(rng, depth)
        if is_condition(condition):
            return condition


def random_attempt(rng, depth):
    """Return what is a condition unless it is too long."""
    if depth and rng.random() < 0.4:
        word = rng.choice(("not", "and", "or"))
        parts = 1 if word == "not" else rng.choice((2, 2, 2, 3, 6 if depth < 3 else 2))
        return (word,) + tuple(random_attempt(rng, depth - 1) for _ in range(parts))
    names = []
    while len(names) < 5:
        name = random_name(rng, False)
        if name not in names:
            names.append(name)
    low = rng.choice((0, 0, 12, 99))
    word = rng.choice(("always", "asked", "is", "has", "from", "sum", "same"))
    return {
        "always": ALWAYS,
        "asked": (word, names[0]),
        "is": (word, names[0], tuple(sorted(rng.sample(range(16), rng.choice((1, 2, 15)))))),
        "has": (word, names[0], rng.randrange(4)),
        "from": (word, names[0], low, rng.choice((low, 99))),
        "sum": (word, tuple(names[:rng.randint(1, 5)]), low, rng.choice((low, 495))),
        "same": (word, names[0], names[1]),
    }[word]


def random_items(rng, depth=0, rounded=False):
    """Return a tuple of items that are built right."""
    items = []
    for _ in range(rng.randint(0, 4 - depth // 2)):
        words = ["ask", "ask", "check", "twice"] + ["part"] * (depth < 4) + ["each"] * (depth < 4 and not rounded)
        word = rng.choice(words)
        name = random_name(rng, rounded)
        items.append({
            "ask": (word, name, random_kind(rng), rng.choice((ALWAYS, random_words(rng, 2)))),
            "check": (word, name, random_words(rng, 2)),
            "twice": (word, random_name(rng, False), name),
            "part": (word, random_words(rng, 1), random_items(rng, depth + 1, rounded) if word == "part" else ()),
            "each": (word, random_name(rng, False), random_items(rng, depth + 1, True) if word == "each" else ()),
        }[word])
    return tuple(items)
