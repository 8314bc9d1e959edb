"""Chains: Nets and TABLES behind an outlet of another one, beside another one, and ahead of another one."""

from layernets.arithmetic import ONE, ZERO
from layernets.basics import as_tuples
from layernets.curves import added, gate, led, steady, subtracted
from layernets.errors import Known
from layernets.nets import Net, check_outlet, part_renamed
from layernets.tables import outlet_curve, outlets_of, table_from


def behind(net, outlet, other):
    """The Net of which this outlet feeds other; raises NoOutlet(name), then Known(name) with the least NAME of both."""
    check_outlet(net, outlet)
    for channel in net.channels:
        if channel != "in" and channel in other.channels:
            raise Known(channel)
    return Net(net.parts + tuple([part_renamed(part, "in", outlet) for part in other.parts]))


def table_behind(table, outlet, other):
    """The TABLE of which this outlet feeds other."""
    curves = _curves(as_tuples(table))
    # An outlet of other may have the same NAME: what feeds other is out of the way first.
    way = curves.pop(outlet) if outlet in curves else steady(ZERO)
    return table_from(_together(curves, _led_all(as_tuples(other), way)))


def mixed(one, other, share):
    """The TABLE by which this share of each drop goes by one, the rest by other."""
    share = as_tuples(share)
    return _parted(as_tuples(one), steady(share), as_tuples(other))


def weired(one, limit, other):
    """The TABLE by which the first limit goes by one, all else by other."""
    return _parted(as_tuples(one), gate(as_tuples(limit)), as_tuples(other))


def _parted(one, way, other):
    """The TABLE by which what the curve way brings goes by one, all else by other."""
    rest = subtracted(steady(ONE), way)
    return table_from(_together(_led_all(one, way), _led_all(other, rest)))


def _curves(table):
    """The curve of each OUTLET of a TABLE, by its NAME."""
    return {outlet: outlet_curve(table, outlet) for outlet in outlets_of(table)}


def _led_all(table, way):
    """The curve of each OUTLET of a TABLE, by its NAME, if the curve way brings what comes in."""
    curves = _curves(table)
    return {outlet: led(curves[outlet], way) for outlet in curves}


def _together(curves, more):
    """The curves of both dicts: outlets of both with one NAME are one outlet."""
    both = {outlet: curves[outlet] for outlet in curves}
    for outlet in more:
        both[outlet] = added(both[outlet], more[outlet]) if outlet in both else more[outlet]
    return both
