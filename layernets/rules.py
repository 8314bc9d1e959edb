"""Claims: the TABLES by which an INFLOW is parted among those who may have so much of it.

Rows are pairs (width, SHARES): so many drops, one behind another, are parted so.
"""

from layernets.arithmetic import ONE, ZERO, lesser, minus, over, plus, times
from layernets.basics import as_tuples


def in_turn(claims):
    """The TABLE by which each claim is met whole, one behind another in their order."""
    return _table([(amount, ((name, ONE),)) for name, amount in as_tuples(claims)])


def by_share(claims):
    """The TABLE by which everybody gets as much of each drop as their claim is of all claims together."""
    claims = as_tuples(claims)
    if len(claims) == 0:
        return _table([])
    total = ZERO
    for _, amount in claims:
        total = plus(total, amount)
    return _table([(total, tuple(sorted([(name, over(amount, total)) for name, amount in claims])))])


def evenly(claims):
    """The TABLE by which each drop is parted evenly among all whose claim is not met yet."""
    return _table(_even_rows(as_tuples(claims)))


def topmost(claims):
    """The TABLE by which each drop is parted evenly among those whose unmet rest is the greatest."""
    # What is unmet falls just as the claims are met evenly, the last drop first.
    return _table(_even_rows(as_tuples(claims))[::-1])


def _even_rows(claims):
    """The rows by which all claims are met evenly."""
    rows = []
    met = ZERO
    while len(claims) > 0:
        least = claims[0][1]
        for _, amount in claims:
            least = lesser(least, amount)
        names = sorted([name for name, _ in claims])
        width = times(minus(least, met), (len(names), 1))
        rows.append((width, tuple([(name, (1, len(names))) for name in names])))
        claims = [claim for claim in claims if claim[1] != least]
        met = least
    return rows


def _table(rows):
    """The TABLE of these rows, neighbours unlike, behind which all goes to rest."""
    layers = []
    until = ZERO
    for width, shares in rows:
        until = plus(until, width)
        layers.append((until, shares))
    layers.append((None, (("rest", ONE),)))
    return tuple(layers)
