"""Never less: whether an outlet ever gets less by one Net than by another."""

from layernets.arithmetic import ZERO, greater, is_less
from layernets.basics import is_amount
from layernets.curves import amount_by, place_below, stretches, subtracted
from layernets.nets import check_outlet
from layernets.tables import channel_curves


def never_less(one, other, outlet):
    """Whether there is no INFLOW of which one gives the outlet less than other; raises NoOutlet(name)."""
    return less_at(one, other, outlet) is None


def less_at(one, other, outlet):
    """An INFLOW of which one gives the outlet less than other, None if there is none; raises NoOutlet(name)."""
    return place_below(_lead(one, other, outlet))


def is_less_at(one, other, outlet, thing):
    """Whether thing is an INFLOW of which one gives the outlet less than other; raises NoOutlet(name)."""
    lead = _lead(one, other, outlet)
    return is_amount(thing) and is_less(amount_by(lead, thing), ZERO)


def most_lead(one, other, outlet):
    """By how much the outlet gets more by one at the most, None if there is no end to it; raises NoOutlet(name)."""
    most = ZERO
    for _, until, lead, rate in stretches(_lead(one, other, outlet)):
        most = greater(most, lead)
        if until is None and is_less(ZERO, rate):
            return None
    return most


def compare(one, other, outlet):
    """Which Net never gives the outlet less: "alike", "more", "less" or "apart"; raises NoOutlet(name)."""
    if never_less(one, other, outlet):
        return "alike" if never_less(other, one, outlet) else "more"
    return "less" if never_less(other, one, outlet) else "apart"


def _lead(one, other, outlet):
    """The curve of what the outlet gets more by one than by other, maybe below 0; raises NoOutlet(name)."""
    check_outlet(one, outlet)
    check_outlet(other, outlet)
    return subtracted(channel_curves(one)[outlet], channel_curves(other)[outlet])
