"""What runs through a Net: how much of an INFLOW comes to each CHANNEL."""

from layernets.arithmetic import lesser, minus, plus, times
from layernets.basics import as_tuples
from layernets.nets import check_channel, check_outlet


def walked(net, inflow):
    """The ascending tuple of the pairs (CHANNEL, AMOUNT) of all CHANNELS."""
    amounts = _amounts(net, inflow)
    return tuple(sorted(amounts.items()))


def flow(net, inflow):
    """The FLOW of all OUTLETS."""
    amounts = _amounts(net, inflow)
    return tuple([(outlet, amounts[outlet]) for outlet in net.outlets])


def flow_of(net, outlet, inflow):
    """How much comes out at this OUTLET; raises NoOutlet(name)."""
    check_outlet(net, outlet)
    return _amounts(net, inflow)[outlet]


def passed(net, channel, inflow):
    """How much runs through this CHANNEL; raises NoChannel(name)."""
    check_channel(net, channel)
    return _amounts(net, inflow)[channel]


def _amounts(net, inflow):
    """How much runs through each CHANNEL, by its NAME."""
    amounts = {"in": as_tuples(inflow)}
    for part in net.parts:
        if part[0] == "join":
            _, one, other, to = part
            amounts[to] = plus(amounts[one], amounts[other])
        else:
            word, one, amount, to, rest = part
            come = amounts[one]
            amounts[to] = lesser(come, amount) if word == "weir" else times(come, amount)
            amounts[rest] = minus(come, amounts[to])
    return amounts
