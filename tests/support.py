"""What the tests of all files use."""

import random
import unittest
from fractions import Fraction

from layernets.errors import FlowError
from layernets.nets import Net


class Case(unittest.TestCase):
    """A test case that also looks at the kinds of values, not at what they are worth alone."""

    def same(self, got, wanted):
        """Tells (1, 2) from [1, 2] and 1 from True, at any depth, which == does not."""
        self.assertEqual(repr(shown(got)), repr(shown(wanted)))

    def refused(self, error, kept, call, *args, **named):
        """The call raises just this error, which keeps just these values."""
        with self.assertRaises(FlowError) as caught:
            call(*args, **named)
        self.assertIs(type(caught.exception), error)
        for name, value in kept.items():
            self.same(getattr(caught.exception, name), value)

    def told(self, wanted, function, **named):
        """By position and by names, with lists for tuples too, twice: the function returns this, and changes nothing."""
        for given in (named, with_lists(named)):
            before = repr(shown(given))
            self.same(function(*given.values()), wanted)
            self.same(function(**given), wanted)
            self.assertEqual(repr(shown(given)), before)

    def steady(self, function, **named):
        """What the function returns, which is not specified, but each time the same."""
        got = function(**named)
        self.told(got, function, **named)
        return got

    def refuses(self, error, kept, function, **named):
        """By position and by names, with lists for tuples too, twice: the function raises this error."""
        for given in (named, with_lists(named)):
            before = repr(shown(given))
            self.refused(error, kept, function, *given.values())
            self.refused(error, kept, function, **given)
            self.assertEqual(repr(shown(given)), before)


def shown(value):
    """The value with the PARTS of each Net in its place, at any depth."""
    if isinstance(value, Net):
        return ("Net", value.parts)
    if isinstance(value, dict):
        return {name: shown(item) for name, item in value.items()}
    if isinstance(value, (list, tuple)):
        return type(value)(shown(item) for item in value)
    return value


def with_lists(named):
    """The arguments with lists for tuples, at any depth; a thing stays as it is."""
    return {name: value if name == "thing" else listed(value) for name, value in named.items()}


def listed(value):
    """The value with a list for each tuple in it, at any depth."""
    if isinstance(value, (list, tuple)):
        return [listed(item) for item in value]
    return value


def tupled(value):
    """The value with a tuple for each list in it, at any depth."""
    if isinstance(value, (list, tuple)):
        return tuple(tupled(item) for item in value)
    return value


def deep(depth):
    """A tuple in a tuple in a tuple .., so many."""
    nest = ()
    for _ in range(depth - 1):
        nest = (nest,)
    return nest


# Values that are neither a PART nor anything else that a thing is asked to be.
ODD_THINGS = (
    True, False, None, 0, 1, -1, 10 ** 50, "", "in", "join a b c", "weir in 3 a r",
    (), [], (True,), (None, None), ((),), ([],), [[]], ("",), deep(12), listed(deep(12)),
    ("join",), ("join", "a", "b", deep(11)), (deep(11), "a", "b", "c"), ((1, 2), (3, 4)), ((1, 2), (3, 4), (5, 6), (7, 8)),
)
# Pairs that are no FRACTION, or one below 0.
ODD_AMOUNTS = (
    (2, 4), (0, 2), (3, 3), (-1, 1), (-1, 2), (1, 0), (0, 0), (1, -1), (-1, -1), (1,), (1, 2, 3), [1, 2], [3, 1], (True, 1), (1, True), (True, True),
    (False, 1), (None, 1), (1, None), ("1", 1), (1, "1"), ("1", "2"), ((1, 1), 1), (1, (1,)), ((1, 1),), (10 ** 60, 10 ** 60), "12", "1/2", 1, 3, 0,
)
ODD_INFLOWS = ODD_THINGS + ODD_AMOUNTS


# What Nets do, reckoned another way than in the package: by Python's Fraction, drop behind drop.

def pair(amount):
    """The FRACTION of a Fraction."""
    return (Fraction(amount).numerator, Fraction(amount).denominator)


def walk(parts, inflow):
    """How much runs through each channel, PART by PART as [5] says."""
    amounts = {"in": Fraction(inflow)}
    for part in parts:
        if part[0] == "join":
            amounts[part[3]] = amounts[part[1]] + amounts[part[2]]
            continue
        come, amount = amounts[part[1]], Fraction(*part[2])
        amounts[part[3]] = min(come, amount) if part[0] == "weir" else come * amount
        amounts[part[4]] = come - amounts[part[3]]
    return amounts


def outflow(net, inflow):
    """How much comes out at each outlet that gets anything."""
    amounts = walk(net.parts, inflow)
    return {outlet: amounts[outlet] for outlet in net.outlets if amounts[outlet] > 0}


def rates(parts, inflow):
    """How much of the drop just behind this INFLOW runs through each channel."""
    amounts, now = walk(parts, inflow), {"in": Fraction(1)}
    for part in parts:
        if part[0] == "join":
            now[part[3]] = now[part[1]] + now[part[2]]
            continue
        come, amount = now[part[1]], Fraction(*part[2])
        if part[0] == "weir":
            now[part[3]] = come if amounts[part[1]] < amount else Fraction(0)
        else:
            now[part[3]] = come * amount
        now[part[4]] = come - now[part[3]]
    return now


def cuts(net):
    """The INFLOWS above 0 at which a weir is just filled, ascending: each is found from the one ahead of it."""
    found, inflow = [], Fraction(0)
    while True:
        amounts, now = walk(net.parts, inflow), rates(net.parts, inflow)
        waits = [(Fraction(*part[2]) - amounts[part[1]]) / now[part[1]] for part in net.parts
                 if part[0] == "weir" and amounts[part[1]] < Fraction(*part[2]) and now[part[1]] > 0]
        if not waits:
            return found
        inflow += min(waits)
        found.append(inflow)


def layers(net):
    """The TABLE of a Net: the rates between the cuts."""
    places, table = [Fraction(0), *cuts(net)], []
    for begin, until in zip(places, [*places[1:], None]):
        now = rates(net.parts, begin)
        shares = tuple((outlet, pair(now[outlet])) for outlet in net.outlets if now[outlet] > 0)
        if table and table[-1][1] == shares:
            table.pop()
        table.append((None if until is None else pair(until), shares))
    return tuple(table)


def outflow_by(table, inflow):
    """How much each outlet that gets anything gets by a TABLE, LAYER by LAYER."""
    amounts, begin, inflow = {}, Fraction(0), Fraction(inflow)
    for until, shares in table:
        end = inflow if until is None else min(inflow, Fraction(*until))
        for outlet, share in shares:
            if end > begin:
                amounts[outlet] = amounts.get(outlet, Fraction(0)) + (end - begin) * Fraction(*share)
        begin = max(begin, end)
    return amounts


def around(*rows):
    """The INFLOWS at all of these places, just beside them, between them and far beyond the last one, ascending."""
    places = sorted({Fraction(0)}.union(*[[Fraction(*row) if isinstance(row, tuple) else row for row in some] for some in rows]))
    beside = [place + step for place in places for step in (Fraction(-1, 10 ** 9), Fraction(0), Fraction(1, 10 ** 9))]
    between = [(one + other) / 2 for one, other in zip(places, places[1:])]
    far = [places[-1] + 1, places[-1] + Fraction(7, 3), places[-1] + 10 ** 12]
    return sorted({place for place in beside + between + far if place >= 0})


def table_borders(table):
    """The borders of a TABLE, as Fractions."""
    return [Fraction(*until) for until, _ in table[:-1]]


# Nets and TABLES without end, the same ones each time.

LIMITS = ((0, 1), (1, 3), (1, 2), (1, 1), (3, 2), (2, 1), (5, 2), (3, 1), (5, 1), (7, 1), (22, 7))
SHARES = ((0, 1), (1, 4), (1, 3), (1, 2), (1, 2), (2, 3), (5, 7), (1, 1))


def some_net(chance, many):
    """A Net of so many PARTS, with joins."""
    names = [one + other for one in "abcdefgh" for other in "xyz"]
    chance.shuffle(names)
    free, parts = ["in"], []
    for _ in range(many):
        chance.shuffle(free)
        word = chance.choice(("weir", "weir", "divide", "join"))
        if word == "join" and len(free) > 1:
            parts.append(("join", free.pop(), free.pop(), names.pop()))
        else:
            word = "weir" if word == "join" else word
            parts.append((word, free.pop(), chance.choice(LIMITS if word == "weir" else SHARES), names.pop(), names.pop()))
        free.extend(parts[-1][3:])
    return Net(tuple(parts))


def some_nets(count, seed, most=12):
    """So many Nets of 0 to most PARTS."""
    chance = random.Random(seed)
    return [some_net(chance, number % (most + 1)) for number in range(count)]


def twisted(chance, net):
    """A Net with the same channels in which one PART has another limit or share, or its sides changed."""
    places = [place for place, part in enumerate(net.parts) if part[0] != "join"]
    parts = list(net.parts)
    if places:
        place = chance.choice(places)
        word, one, amount, to, rest = parts[place]
        amount = chance.choice(LIMITS if word == "weir" else SHARES)
        parts[place] = (word, one, amount, rest, to) if chance.random() < 0.3 else (word, one, amount, to, rest)
    return Net(tuple(parts))


def some_pairs(count, seed, most=12):
    """So many pairs of Nets with the same channels, unlike by one PART or two."""
    chance = random.Random(seed)
    pairs = []
    for net in some_nets(count, seed, most):
        other = twisted(chance, net)
        pairs.append((net, twisted(chance, other) if chance.random() < 0.5 else other))
    return pairs


def some_shares(chance, names):
    """SHARES of some of these outlets."""
    chosen = sorted(chance.sample(names, chance.randint(1, min(len(names), 4))))
    weights = [chance.randint(1, 5) for _ in chosen]
    return tuple((name, pair(Fraction(weight, sum(weights)))) for name, weight in zip(chosen, weights))


def some_table(chance, many, names):
    """A TABLE of at most so many LAYERS."""
    table, until = [], Fraction(0)
    for _ in range(many):
        until += Fraction(chance.randint(1, 12), chance.choice((1, 1, 2, 3, 5)))
        shares = some_shares(chance, names)
        if table and table[-1][1] == shares:
            table.pop()
        table.append((pair(until), shares))
    table[-1] = (None, table[-1][1])
    return tuple(table)


def some_tables(count, seed, names=("a", "b", "c", "p", "q", "zz", "outlet", "abcdefgh")):
    """So many TABLES of at most 8 LAYERS."""
    chance = random.Random(seed)
    return [some_table(chance, 1 + number % 8, list(names)) for number in range(count)]
