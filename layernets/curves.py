"""Curves: how much of each drop of an INFLOW runs through one channel.

Steps are pairs (until, value), the until rising, None in the last pair alone: the value belongs to the drops from the
until ahead up to this one. A TABLE is steps whose values are SHARES; a curve is steps whose values are FRACTIONS, the
rate at which something comes. A curve may have neighbours with the same rate.
"""

from layernets.arithmetic import ONE, ZERO, is_less, minus, over, plus, times


def earlier(one, other):
    """The lesser of two until; None comes last."""
    if one is None:
        return other
    if other is None or is_less(one, other):
        return one
    return other


def paired(one, other):
    """The triples (until, value, value of other) of two steps, cut at the until of both."""
    rows = []
    at = to = 0
    # The last until is None in both, so both come to their end at once.
    while at < len(one):
        until = earlier(one[at][0], other[to][0])
        rows.append((until, one[at][1], other[to][1]))
        if one[at][0] == until:
            at += 1
        if other[to][0] == until:
            to += 1
    return rows


def united(steps):
    """The same steps with one step for neighbours with the same value."""
    rows = []
    for until, value in steps:
        if len(rows) > 0 and rows[-1][1] == value:
            rows.pop()
        rows.append((until, value))
    return rows


def steady(rate):
    """The curve with this rate throughout."""
    return [(None, rate)]


def gate(place):
    """The curve that lets all drops up to this place through and none behind it; place may be None for no end."""
    if place is None:
        return steady(ONE)
    # No step is empty: no until is 0.
    if place == ZERO:
        return steady(ZERO)
    return [(place, ONE), (None, ZERO)]


def added(one, other):
    """The curve of what two curves bring together."""
    return [(until, plus(rate, more)) for until, rate, more in paired(one, other)]


def subtracted(one, other):
    """The curve of what one curve brings above the other."""
    return [(until, minus(rate, less)) for until, rate, less in paired(one, other)]


def multiplied(one, other):
    """The curve whose rate is the product of both rates."""
    return [(until, times(rate, part)) for until, rate, part in paired(one, other)]


def stretches(curve):
    """The tuples (begin, until, ahead, rate) of the steps of a curve: so much has come at begin."""
    rows = []
    begin = ahead = ZERO
    for until, rate in curve:
        rows.append((begin, until, ahead, rate))
        if until is not None:
            ahead = plus(ahead, times(rate, minus(until, begin)))
            begin = until
    return rows


def amount_by(curve, inflow):
    """How much has come at this INFLOW."""
    amount = ZERO
    for begin, _, ahead, rate in stretches(curve):
        if is_less(inflow, begin):
            break
        amount = plus(ahead, times(rate, minus(inflow, begin)))
    return amount


def least_place(curve, amount):
    """The least INFLOW at which so much has come, by rates from 0; None if it never has."""
    if amount == ZERO:
        return ZERO
    for begin, until, ahead, rate in stretches(curve):
        if rate != ZERO:
            place = plus(begin, over(minus(amount, ahead), rate))
            if until is None or not is_less(until, place):
                return place
    return None


def most_place(curve, amount):
    """The greatest INFLOW at which no more has come, by rates from 0; None if there is none."""
    for begin, until, ahead, rate in stretches(curve):
        if rate != ZERO:
            place = plus(begin, over(minus(amount, ahead), rate))
            if until is None or is_less(place, until):
                return place
    return None


def place_below(lead):
    """An INFLOW at which less than nothing has come, by rates of any sign; None if there is none."""
    for begin, until, ahead, rate in stretches(lead):
        if is_less(ahead, ZERO):
            return begin
        if until is None and is_less(rate, ZERO):
            # Where the lead is used up, and one drop more.
            return plus(plus(begin, over(ahead, minus(ZERO, rate))), ONE)
    return None


def led(curve, way):
    """The curve of what comes by curve, of what the curve way, of rates from 0, brings to it."""
    rows = []
    for begin, until, ahead, rate in stretches(way):
        if rate == ZERO:
            rows.append((until, ZERO))
            continue
        for end, part in curve:
            # What way has brought by begin is past this step already.
            if end is not None and not is_less(ahead, end):
                continue
            place = None if end is None else plus(begin, over(minus(end, ahead), rate))
            place = earlier(place, until)
            rows.append((place, times(rate, part)))
            if place == until:
                break
    return rows
