"""Alike: whether two Nets do the same FOR ALL INFLOWS."""

from layernets.arithmetic import ONE, ZERO, plus
from layernets.basics import is_amount
from layernets.curves import paired
from layernets.tables import amounts, channel_curves, table_of


def alike(one, other):
    """Whether each OUTLET gets as much by both Nets FOR ALL INFLOWS."""
    return table_of(one) == table_of(other)


def against(one, other):
    """An INFLOW of which some OUTLET gets unlike AMOUNTS; None if there is none."""
    stretch = _first_unlike(one, other)
    if stretch is None:
        return None
    begin, until = stretch
    return plus(begin, ONE) if until is None else until


def is_against(one, other, thing):
    """Whether thing is an INFLOW of which some OUTLET gets unlike AMOUNTS."""
    return is_amount(thing) and _got(one, thing) != _got(other, thing)


def same_up_to(one, other):
    """The greatest INFLOW up to which each OUTLET gets as much by both Nets; None if they are alike."""
    stretch = _first_unlike(one, other)
    return None if stretch is None else stretch[0]


def unlike_outlets(one, other):
    """The set of the OUTLETS that get unlike AMOUNTS of some INFLOW."""
    names = set()
    for _, shares, others in paired(table_of(one), table_of(other)):
        for outlet, _ in sorted(set(shares) ^ set(others)):
            names.add(outlet)
    return tuple(sorted(names))


def idle_weirs(net):
    """The ascending tuple of the places of those weirs past which nothing ever goes on in rest."""
    curves = channel_curves(net)
    places = []
    for place, part in enumerate(net.parts):
        if part[0] == "weir" and all([rate == ZERO for _, rate in curves[part[4]]]):
            places.append(place)
    return tuple(places)


def _first_unlike(one, other):
    """The pair (begin, until) of the first stretch with unlike SHARES by the TABLES; None if they are the same."""
    begin = ZERO
    for until, shares, others in paired(table_of(one), table_of(other)):
        if shares != others:
            return begin, until
        begin = until
    return None


def _got(net, inflow):
    """The list of the pairs (OUTLET, AMOUNT) of those OUTLETS that get something of this INFLOW."""
    return [pair for pair in amounts(table_of(net), inflow) if pair[1] != ZERO]
