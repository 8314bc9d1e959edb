"""A hidden TABLE, told by what came out for the INFLOWS 1, 2, 3, .."""

from layernets.arithmetic import ZERO, minus
from layernets.basics import as_tuples
from layernets.curves import united
from layernets.errors import NoFit
from layernets.tables import amounts, is_shares


def told_table(flows):
    """The TABLE with whole borders, each below the number of FLOWs, that has these FLOWS; raises NoFit."""
    flows = as_tuples(flows)
    steps = []
    ahead = ()
    for number, flow in enumerate(flows):
        shares = _brought(ahead, flow)
        # No border is between two whole numbers: all drops between them run the same way.
        if not is_shares(shares):
            raise NoFit()
        steps.append(((number + 1, 1), shares))
        ahead = flow
    steps[-1] = (None, steps[-1][1])
    return tuple(united(steps))


def has_flows(table, flows):
    """Whether a TABLE has these FLOWS."""
    table = as_tuples(table)
    for number, flow in enumerate(as_tuples(flows)):
        if _gotten(flow) != _gotten(amounts(table, (number + 1, 1))):
            return False
    return True


def surveyed(most, asker):
    """The TABLE with whole borders, none above most, of which asker tells the FLOW of an INFLOW; raises NoFit."""
    # What asker returns is copied at once: it may be the same list each time.
    return told_table([as_tuples(asker((number, 1))) for number in range(1, most + 2)])


def _brought(ahead, flow):
    """What each outlet got more by this FLOW than by the one ahead: the pairs for those that got more, or less."""
    before, now = dict(ahead), dict(flow)
    rows = []
    for outlet in sorted(set(before) | set(now)):
        more = minus(now.get(outlet, ZERO), before.get(outlet, ZERO))
        if more != ZERO:
            rows.append((outlet, more))
    return tuple(rows)


def _gotten(flow):
    """The pairs of a FLOW for those outlets that got something."""
    return [pair for pair in flow if pair[1] != ZERO]
