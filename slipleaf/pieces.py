"""Pieces: what the texts of a tongue are built of, what they name, and how they stand on paper."""

from slipleaf.conditions import all_names, is_condition
from slipleaf.errors import BadUse, Unknown
from slipleaf.rounds import check_uses
from slipleaf.signs import is_signs

MOST_PIECES = 12
MOST_INNER = 6
MOST_IFS = 3
MOST_SIGNS = 60
BRACKETS = "()[]"


def is_text(thing, kinds, many):
    """Tell whether this is a text; kinds: those of all questions ahead, many: how many classes there are."""
    return _are_pieces(thing, MOST_PIECES, 0, kinds, many)


def _are_pieces(thing, most, depth, kinds, many):
    """Tell whether this is a tuple of at most so many pieces, with so many ifs around them."""
    if not isinstance(thing, tuple) or len(thing) > most:
        return False
    return all([_is_piece(piece, depth, kinds, many) for piece in thing])


def _is_piece(thing, depth, kinds, many):
    """Tell whether this is a piece, with so many ifs around it."""
    if isinstance(thing, str):
        return _is_plain(thing)
    if not isinstance(thing, tuple) or len(thing) < 2 or not isinstance(thing[0], str):
        return False
    word, size = thing[0], len(thing)
    if word == "if":
        return size == 4 and depth < MOST_IFS and _is_usable(thing[1], kinds) and all([
            _are_pieces(pieces, MOST_INNER, depth + 1, kinds, many) for pieces in thing[2:]
        ])
    if not isinstance(thing[1], str) or thing[1] not in kinds:
        return False
    if word == "label":
        return size == 2 and kinds[thing[1]][0] != "count"
    if kinds[thing[1]][0] != "count":
        return False
    if word in ("figures", "words"):
        return size == 2
    return word == "by" and size == 3 and _are_wordings(thing[2], many)


def _is_plain(thing):
    """Tell whether this is a string that may stand in a text."""
    return is_signs(thing, 0, MOST_SIGNS) and not any([sign in BRACKETS for sign in thing])


def _are_wordings(thing, many):
    """Tell whether this is a tuple with a string for each of so many classes."""
    return isinstance(thing, tuple) and len(thing) == many and all([_is_plain(wording) for wording in thing])


def _is_usable(thing, kinds):
    """Tell whether this is a condition that uses questions ahead as it may."""
    if not is_condition(thing):
        return False
    try:
        check_uses(thing, kinds)
    except (BadUse, Unknown):
        return False
    return True


def names_of(pieces):
    """Return the list of the names in what is known to be pieces, each as often as it stands there."""
    names = []
    for piece in pieces:
        if isinstance(piece, str):
            continue
        if piece[0] == "if":
            names.extend(all_names(piece[1]) + names_of(piece[2]) + names_of(piece[3]))
        else:
            names.append(piece[1])
    return names


def on_paper(pieces, places):
    """Return how pieces stand on paper; places has the place of each name."""
    return "".join([_piece_on_paper(piece, places) for piece in pieces])


def _piece_on_paper(piece, places):
    """Return how a piece stands on paper."""
    if isinstance(piece, str):
        return piece
    if piece[0] == "if":
        return f"[{on_paper(piece[2], places)}/{on_paper(piece[3], places)}]"
    if piece[0] == "by":
        return "[" + "/".join(piece[2]) + "]"
    return f"({places[piece[1]] + 1})"
