"""Prices: the slips that each answer brings on the papers of one household.

Claims are triples `(place, nothing, told)`: the slips of a letter or a note for the value None of
the question at this place, and for each of its answers.
"""

from slipleaf.kinds import EMPTY, all_slips


class Prices:
    """The prices of some sheets of one issue, each in its counter, and of some claims.

    entry: what each record costs; passed: for each place, the price of the value None; rows: for
    each row of the booklet, the price of each answer, with what comes on the way from there to the
    row that is due next; just one price if all are alike.
    """

    def __init__(self, issue, counters, claims):
        # Each record comes to row 1, so it overlooks the first page if that is empty.
        self.entry = len([counter for counter in counters if 1 in counter.empty])
        self.passed = _sums_of_nothing(len(issue.form), claims)
        self.rows = _row_prices(issue, counters, _answer_prices(issue.form, claims))

    def tolls_of(self, booklet):
        """Return the tolls of the rows of the booklet, as slipleaf/courses.py has them."""
        tolls = []
        for row, prices in zip(booklet.rows, self.rows):
            arrows = row[2]
            if len(prices) == 1:
                # There are as many arrows as answers, and often they are all alike.
                prices = prices if arrows.count(arrows[0]) == len(arrows) else prices * len(arrows)
            tolls.append(tuple(zip(arrows, prices)))
        return tolls


def _sums_of_nothing(many, claims):
    """Return, for each of so many places, the price of the value None."""
    passed = [0] * many
    for place, nothing, _ in claims:
        passed[place] = passed[place] + nothing
    return passed


def _answer_prices(form, claims):
    """Return, for each place, the price of each answer by the claims; just one if all are alike."""
    prices = [(0,)] * len(form)
    for place, _, told in claims:
        prices[place] = _both(prices[place], told)
    return prices


def _row_prices(issue, counters, claimed):
    """Return, for each row, the price of each answer."""
    places = {name: place for place, name in enumerate(issue.form.names)}
    prices = []
    for row, (_, name, arrows) in enumerate(issue.booklet.rows, start=1):
        told = claimed[places[name]]
        for counter in counters:
            told = _both(told, _content_prices(issue, counter, row))
            told = _both(told, _arrow_prices(issue, counter, row, arrows))
        prices.append(told)
    return prices


def _content_prices(issue, counter, row):
    """Return the slips from each answer that is due in a row to what stands there."""
    content = counter.sheet[row - 1]
    if content is None or issue.pages[row - 1] in counter.empty:
        return (0,)
    kind = issue.form.kind_of(issue.booklet.rows[row - 1][1])
    if content == EMPTY and kind[0] != "tick":
        return (1,)
    return _packed(all_slips(kind, content))


def _arrow_prices(issue, counter, row, arrows):
    """Return the slips of the gap behind a row, and of the empty page that comes next, for each of its arrows."""
    known = {}
    for arrow in arrows:
        if arrow not in known:
            price = int(counter.is_overlooked(row, arrow))
            if arrow < issue.booklet.end and issue.pages[arrow - 1] != issue.pages[row - 1]:
                price = price + int(issue.pages[arrow - 1] in counter.empty)
            known[arrow] = price
    return _packed(tuple([known[arrow] for arrow in arrows]))


def _packed(prices):
    """Return just one of the prices if all are alike."""
    return prices[:1] if prices.count(prices[0]) == len(prices) else prices


def _both(prices, others):
    """Return the sums of two tuples of prices."""
    if len(prices) != len(others):
        alike, told = (prices, others) if len(prices) == 1 else (others, prices)
        return told if alike == (0,) else tuple([price + alike[0] for price in told])
    return tuple([price + other for price, other in zip(prices, others)])
