"""Nets with a given TABLE."""

from layernets.arithmetic import ONE, ZERO, minus, over
from layernets.basics import as_tuples
from layernets.nets import Net, renamed
from layernets.tables import borders, outlets_of, table_of

LETTERS = "abcdefghijklmnopqrstuvwxyz"


def fewest_weirs(table):
    """The least number of weirs of a Net with this TABLE."""
    return len(borders(table))


def net_of(table):
    """A Net with this TABLE that has as few weirs as can be, and just the OUTLETS of the TABLE."""
    table = as_tuples(table)
    if outlets_of(table) == ("in",):
        return Net()
    parts = []
    names = _free_names(table)
    layers = _cut_layers(parts, names, table)
    # The channel so far of each outlet, by its NAME.
    ends = {}
    for channel, shares in layers:
        pieces = _shared_out(parts, names, channel, shares)
        for outlet, end in pieces:
            ends[outlet] = _joined(parts, names, ends[outlet], end) if outlet in ends else end
    net = Net(parts)
    for outlet in ends:
        net = renamed(net, ends[outlet], outlet)
    return net


def is_net_of(table, net):
    """Whether the Net has this TABLE."""
    return table_of(net) == as_tuples(table)


def leanest(net):
    """A Net with the same TABLE, as few weirs as can be, and just the OUTLETS that get something."""
    return net_of(table_of(net))


def _cut_layers(parts, names, table):
    """Lays the weirs that cut at the borders: the pairs of a channel for each LAYER and its SHARES."""
    rows = []
    channel, ahead = _entrance(parts, names, table), ZERO
    for until, shares in table[:-1]:
        to, channel = _split(parts, names, "weir", channel, minus(until, ahead))
        rows.append((to, shares))
        ahead = until
    rows.append((channel, table[-1][1]))
    return rows


def _entrance(parts, names, table):
    """The channel into which all comes in."""
    # One OUTLET alone would be the channel "in" itself, which no PART may make: all is halved and joined again.
    if len(outlets_of(table)) > 1:
        return "in"
    to, rest = _split(parts, names, "divide", "in", (1, 2))
    return _joined(parts, names, to, rest)


def _shared_out(parts, names, channel, shares):
    """Lays the dividers for SHARES of what comes in this channel: the pairs of an outlet and its channel."""
    rows = []
    left = ONE
    for outlet, share in shares[:-1]:
        to, channel = _split(parts, names, "divide", channel, over(share, left))
        rows.append((outlet, to))
        left = minus(left, share)
    rows.append((shares[-1][0], channel))
    return rows


def _split(parts, names, word, one, amount):
    """Lays a weir or a divider: the two channels that it makes."""
    to, rest = names[2 * len(parts)], names[2 * len(parts) + 1]
    parts.append((word, one, amount, to, rest))
    return to, rest


def _joined(parts, names, one, other):
    """Lays a join: the channel that it makes."""
    to = names[2 * len(parts)]
    parts.append(("join", one, other, to))
    return to


def _free_names(table):
    """So many NAMEs that two are there for each PART: none is that of an OUTLET, nor in."""
    outlets = outlets_of(table)
    # A weir for each LAYER, a divider and a join for each pair at the most, and two PARTS at the entrance.
    many = 2 * (len(table) + 2 * sum([len(shares) for _, shares in table]) + 2)
    names = [_name(number) for number in range(many + len(outlets) + 1)]
    return [name for name in names if name != "in" and name not in outlets]


def _name(number):
    """A NAME for each number from 0: its digits, 26 of them, as letters."""
    letters = LETTERS[number % 26]
    while number >= 26:
        number = number // 26
        letters = LETTERS[number % 26] + letters
    return letters
