"""Inflows told back: how much must come in for so much at an OUTLET."""

from layernets.arithmetic import ZERO, plus
from layernets.basics import as_tuples
from layernets.curves import least_place, most_place, stretches
from layernets.nets import check_outlet
from layernets.tables import channel_curves
from layernets.walks import flow


def least_inflow(net, outlet, amount):
    """The least INFLOW by which the OUTLET gets at least so much, None if it never does; raises NoOutlet(name)."""
    return least_place(_curve(net, outlet), as_tuples(amount))


def most_inflow(net, outlet, amount):
    """The greatest INFLOW by which the OUTLET gets at most so much, None if there is none; raises NoOutlet(name)."""
    return most_place(_curve(net, outlet), as_tuples(amount))


def greatest_amount(net, outlet):
    """The most that the OUTLET gets by any INFLOW, None if there is no end; raises NoOutlet(name)."""
    rows = stretches(_curve(net, outlet))
    ahead, rate = rows[-1][2:]
    return ahead if rate == ZERO else None


def inflow_for(net, flows):
    """The INFLOW by which flow tells just these pairs; None if there is none."""
    flows = as_tuples(flows)
    inflow = ZERO
    for _, amount in flows:
        inflow = plus(inflow, amount)
    return inflow if flow(net, inflow) == flows else None


def _curve(net, outlet):
    """The curve of an OUTLET; raises NoOutlet(name)."""
    check_outlet(net, outlet)
    return channel_curves(net)[outlet]
