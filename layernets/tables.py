"""TABLES: what each OUTLET gets of each drop, from the first one on."""

from math import lcm

from layernets.arithmetic import ONE, ZERO, is_less
from layernets.basics import as_tuples, is_amount, is_name, is_share
from layernets.curves import added, amount_by, gate, least_place, multiplied, paired, steady, subtracted, united
from layernets.nets import check_weir


def is_shares(thing):
    """Whether thing is SHARES, of whatever length."""
    if not isinstance(thing, tuple) or not all([_is_pair(pair) for pair in thing]):
        return False
    outlets = [pair[0] for pair in thing]
    # No outlet has two shares: their NAMEs rise, not the pairs alone.
    if not all([name < after for name, after in zip(outlets, outlets[1:])]):
        return False
    return _come_to_one([pair[1] for pair in thing])


def is_table(thing):
    """Whether thing is a TABLE, of whatever length."""
    if not isinstance(thing, tuple) or len(thing) == 0:
        return False
    if not all([_is_layer(layer) for layer in thing]):
        return False
    if thing[-1][0] is not None or any([until is None for until, _ in thing[:-1]]):
        return False
    ahead = ZERO
    for until, _ in thing[:-1]:
        if not is_less(ahead, until):
            return False
        ahead = until
    return len(united(thing)) == len(thing)


def table_of(net):
    """The TABLE of a Net."""
    curves = channel_curves(net)
    return table_from({outlet: curves[outlet] for outlet in net.outlets})


def outlets_of(table):
    """The set of the OUTLETS that stand in a TABLE."""
    return tuple(sorted({pair[0] for layer in table for pair in layer[1]}))


def borders(table):
    """The ascending list of the borders of a TABLE."""
    return [until for until, _ in as_tuples(table)[:-1]]


def amount_of(table, outlet, inflow):
    """What this OUTLET gets of this INFLOW; nothing if it does not stand in the TABLE."""
    return amount_by(outlet_curve(as_tuples(table), outlet), as_tuples(inflow))


def amounts(table, inflow):
    """The ascending tuple of the pairs (OUTLET, AMOUNT) for all OUTLETS of a TABLE."""
    return tuple([(outlet, amount_of(table, outlet, inflow)) for outlet in outlets_of(table)])


def share_at(table, place):
    """The SHARES of the drops just behind this place."""
    behind = [shares for until, shares in as_tuples(table) if until is None or is_less(place, until)]
    return behind[0]


def place_of_weir(net, place):
    """The least INFLOW with which the limit of this weir has come, None if it never has; raises NoPlace(number)."""
    check_weir(net, place)
    part = net.parts[place]
    return least_place(channel_curves(net)[part[1]], part[2])


def channel_curves(net):
    """The curve of each CHANNEL of a Net, by its NAME."""
    curves = {"in": steady(ONE)}
    for part in net.parts:
        if part[0] == "join":
            _, one, other, to = part
            curves[to] = added(curves[one], curves[other])
        else:
            word, one, amount, to, rest = part
            come = curves[one]
            way = gate(least_place(come, amount)) if word == "weir" else steady(amount)
            curves[to] = multiplied(come, way)
            curves[rest] = subtracted(come, curves[to])
    return curves


def outlet_curve(table, outlet):
    """The curve of an OUTLET by a TABLE of tuples."""
    return [(until, _share_of(shares, outlet)) for until, shares in table]


def table_from(curves):
    """The TABLE of OUTLETS with these curves, a dict by their NAMEs, which come to 1 together."""
    steps = steady(())
    for outlet in sorted(curves):
        steps = [(until, _with_share(shares, outlet, rate)) for until, shares, rate in paired(steps, curves[outlet])]
    return tuple(united(steps))


def _with_share(shares, outlet, rate):
    """These SHARES with one outlet more behind them, if it gets something."""
    return shares if rate == ZERO else shares + ((outlet, rate),)


def _share_of(shares, outlet):
    """The share that an outlet has by these SHARES."""
    for name, share in shares:
        if name == outlet:
            return share
    return ZERO


def _is_pair(thing):
    """Whether thing is a pair of an outlet and a share above 0."""
    if not isinstance(thing, tuple) or len(thing) != 2:
        return False
    return is_name(thing[0]) and is_share(thing[1]) and thing[1] != ZERO


def _is_layer(thing):
    """Whether thing is a pair of None or an AMOUNT and SHARES."""
    if not isinstance(thing, tuple) or len(thing) != 2:
        return False
    return (thing[0] is None or is_amount(thing[0])) and is_shares(thing[1])


def _come_to_one(shares):
    """Whether these shares come to 1 together."""
    # One bottom for all of them: to add up many shares one by one takes long.
    bottom = 1
    for share in shares:
        bottom = lcm(bottom, share[1])
    return sum([top * (bottom // part) for top, part in shares]) == bottom
