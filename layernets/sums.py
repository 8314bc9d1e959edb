"""One inflow behind another: what more brings behind what has come in already."""

from layernets.arithmetic import ZERO, is_less, minus, plus
from layernets.basics import as_tuples
from layernets.curves import amount_by, least_place
from layernets.nets import check_outlet
from layernets.tables import channel_curves
from layernets.walks import flow


def table_after(table, amount):
    """The TABLE of the drops that come behind so much, counted from 0 again."""
    layers = []
    for until, shares in as_tuples(table):
        if until is None:
            layers.append((None, shares))
        elif is_less(amount, until):
            layers.append((minus(until, amount), shares))
    return tuple(layers)


def brought(net, inflow, more):
    """What more brings behind inflow: the pairs (outlet, AMOUNT) of all outlets."""
    before, now = flow(net, inflow), flow(net, plus(inflow, more))
    return tuple([(outlet, minus(amount, ahead)) for (outlet, amount), (_, ahead) in zip(now, before)])


def sums_of(net, inflows):
    """The list of what each of these AMOUNTS brings, if they come in one behind another."""
    rows = []
    inflow = ZERO
    for more in inflows:
        rows.append(brought(net, inflow, more))
        inflow = plus(inflow, more)
    return rows


def more_for(net, inflow, outlet, amount):
    """How much must come behind inflow until the outlet gets so much more, None if it never does; raises NoOutlet."""
    check_outlet(net, outlet)
    if as_tuples(amount) == ZERO:
        return ZERO
    curve = channel_curves(net)[outlet]
    place = least_place(curve, plus(amount_by(curve, inflow), amount))
    return None if place is None else minus(place, inflow)
