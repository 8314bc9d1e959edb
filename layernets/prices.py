"""Prices: what an INFLOW is worth by what comes out."""

from layernets.arithmetic import ZERO, is_less
from layernets.basics import as_tuples, is_amount, is_name, is_number
from layernets.curves import added, amount_by, least_place, multiplied, place_below, steady, subtracted
from layernets.errors import NoOutlet
from layernets.tables import channel_curves


def is_prices(thing):
    """Whether thing is PRICES."""
    if not isinstance(thing, tuple) or not all([_is_price(pair) for pair in thing]):
        return False
    return all([pair[0] < after[0] for pair, after in zip(thing, thing[1:])])


def worth(net, prices, inflow):
    """What the INFLOW is worth by the Net, a FRACTION; raises NoOutlet(name)."""
    return amount_by(_worth_curve(net, prices), as_tuples(inflow))


def never_worth_less(one, other, prices):
    """Whether no INFLOW is worth less by one than by other; raises NoOutlet(name)."""
    return worth_against(one, other, prices) is None


def worth_against(one, other, prices):
    """An INFLOW that is worth less by one than by other, None if there is none; raises NoOutlet(name)."""
    return place_below(_lead(one, other, prices))


def is_worth_against(one, other, prices, thing):
    """Whether thing is an INFLOW that is worth less by one than by other; raises NoOutlet(name)."""
    lead = _lead(one, other, prices)
    return is_amount(thing) and is_less(amount_by(lead, thing), ZERO)


def inflow_worth(net, prices, amount):
    """The least INFLOW that is worth so much at least, None if there is none; raises NoOutlet(name)."""
    return least_place(_worth_curve(net, prices), as_tuples(amount))


def _is_price(thing):
    """Whether thing is a pair of a NAME and a number from 0."""
    if not isinstance(thing, tuple) or len(thing) != 2:
        return False
    return is_name(thing[0]) and is_number(thing[1]) and thing[1] >= 0


def _lead(one, other, prices):
    """The curve of what is worth more by one than by other, maybe below 0; raises NoOutlet(name)."""
    return subtracted(_worth_curve(one, prices), _worth_curve(other, prices))


def _worth_curve(net, prices):
    """The curve of what is worth by a Net; raises NoOutlet(name) for the least OUTLET without a price."""
    known = dict(prices)
    for outlet in net.outlets:
        if outlet not in known:
            raise NoOutlet(outlet)
    curves = channel_curves(net)
    all_worth = steady(ZERO)
    for outlet in net.outlets:
        all_worth = added(all_worth, multiplied(curves[outlet], steady((known[outlet], 1))))
    return all_worth
