"""[16]: several Nets at one outlet."""

import random
import unittest
from fractions import Fraction
from itertools import permutations

from layernets.errors import Known, NoNet, NoOutlet
from layernets.nets import Net
from layernets.ranks import Ranks
from tests.support import Case, around, cuts, listed, some_pairs, walk

HALF, FIRST = Net((("divide", "in", (1, 2), "p", "q"),)), Net((("weir", "in", (4, 1), "p", "q"),))
LATE, MORE = Net((("weir", "in", (2, 1), "q", "p"),)), Net((("divide", "in", (2, 3), "p", "q"),))
ROWS = (("b", FIRST), ("a", HALF), ("d", MORE), ("c", LATE), ("e", Net((("divide", "in", (1, 2), "q", "p"),))))
WAYS = ("is_never_less", "all_pairs", "below", "above", "ties", "layers", "chain")


def share(top, bottom):
    """A Net that sends this share of each drop to p."""
    return Net((("divide", "in", (top, bottom), "p", "q"),))


def never_less(one, other, outlet):
    """By walks at all borders, beside them, between them and far beyond: whether one never gives the outlet less."""
    places = around(cuts(one), cuts(other))
    return all(walk(one.parts, inflow)[outlet] >= walk(other.parts, inflow)[outlet] for inflow in [*places, places[-1] * 10 ** 12])


def told_by_walks(nets, outlet):
    """What Ranks of these Nets, a dict, tell by their definitions."""
    names = sorted(nets)
    least = {(one, other): never_less(nets[one], nets[other], outlet) for one in names for other in names}
    above = [(one, other) for one in names for other in names if least[one, other] and not least[other, one]]
    tied = {one: tuple(other for other in names if least[one, other] and least[other, one]) for one in names}
    layers, left = [], names
    while left:
        layers.append(tuple(name for name in left if not any((other, name) in above for other in left)))
        left = [name for name in left if name not in layers[-1]]
    chains = [row for many in range(len(names) + 1) for row in permutations(names, many) if all(two in above for two in zip(row, row[1:]))]
    most = max(map(len, chains))
    return {
        "is_never_less": least,
        "all_pairs": tuple(above),
        "below": {name: tuple(other for one, other in above if one == name) for name in names},
        "above": {name: tuple(one for one, other in above if other == name) for name in names},
        "ties": tuple(sorted({group for group in tied.values() if len(group) > 1})),
        "layers": layers,
        "chain": min(row for row in chains if len(row) == most),
    }


def told_by(ranks):
    """What Ranks tell, method by method."""
    return {
        "is_never_less": {(one, other): ranks.is_never_less(one, other) for one in ranks.names for other in ranks.names},
        "all_pairs": ranks.all_pairs(),
        "below": {name: ranks.below(name) for name in ranks.names},
        "above": {name: ranks.above(name) for name in ranks.names},
        "ties": ranks.ties(),
        "layers": ranks.layers(),
        "chain": ranks.chain(),
    }


class ExamplesTest(Case):

    def test_ranks(self):
        ranks = Ranks(ROWS, "p")
        self.same((ranks.names, ranks.outlet, len(ranks), "c" in ranks, "x" in ranks, ranks["a"] == HALF, ranks.is_never_less("d", "a"), ranks.is_never_less("b", "a")),
                  (("a", "b", "c", "d", "e"), "p", 5, True, False, True, True, False))
        self.same((ranks.all_pairs(), ranks.below("d"), ranks.above("a"), ranks.ties(), ranks.layers(), ranks.chain()),
                  ((("d", "a"), ("d", "e")), ("a", "e"), ("d",), (("a", "e"),), [("b", "c", "d"), ("a", "e")], ("d", "a")))

    def test_errors(self):
        self.refuses(Known, {"name": "a"}, Ranks, rows=(("a", HALF), ("a", FIRST)), outlet="p")
        self.refuses(NoOutlet, {"name": "x"}, Ranks, rows=(("a", HALF),), outlet="x")
        self.refuses(NoNet, {"name": "x"}, Ranks(ROWS, "p").above, name="x")


class RanksTest(Case):

    def test_no_rows(self):
        for ranks in (Ranks((), "p"), Ranks([], "anything"), Ranks(rows=(), outlet="in")):
            self.same(told_by(ranks), {"is_never_less": {}, "all_pairs": (), "below": {}, "above": {}, "ties": (), "layers": [], "chain": ()})
            self.same((ranks.names, len(ranks), "a" in ranks, "in" in ranks), ((), 0, False, False))
            self.refused(NoNet, {"name": "a"}, lambda: ranks["a"])
        self.same((Ranks((), "p").outlet, Ranks([], "anything").outlet), ("p", "anything"))

    def test_one_row(self):
        ranks = Ranks((("x", FIRST),), "q")
        self.same(told_by(ranks), {"is_never_less": {("x", "x"): True}, "all_pairs": (), "below": {"x": ()}, "above": {"x": ()}, "ties": (), "layers": [("x",)], "chain": ("x",)})
        self.same((ranks.names, len(ranks), "x" in ranks, "y" in ranks, "" in ranks), (("x",), 1, True, False, False))
        self.assertTrue(ranks["x"] == FIRST)

    def test_ties(self):
        nets = {"d": HALF, "b": share(1, 2), "a": share(1, 3), "c": Net.of("divide in 1/3 p r; divide r 1/2 q s"), "e": FIRST}
        for rows in (tuple(nets.items()), tuple(nets.items())[::-1]):
            ranks = Ranks(rows, "p")
            self.same(ranks.ties(), (("a", "c"), ("b", "d")))
            self.same(ranks.layers(), [("b", "d", "e"), ("a", "c")])
            self.same(ranks.chain(), ("b", "a"))
            self.same(ranks.all_pairs(), (("b", "a"), ("b", "c"), ("d", "a"), ("d", "c")))
        self.same(Ranks((("c", HALF), ("a", HALF), ("b", HALF)), "p").ties(), (("a", "b", "c"),))
        self.same(Ranks((("c", HALF), ("a", HALF), ("b", HALF)), "p").layers(), [("a", "b", "c")])
        self.same(Ranks((("c", HALF), ("a", HALF), ("b", HALF)), "p").chain(), ("a",))

    def test_a_long_chain(self):
        rows = tuple((name, share(number + 1, 9)) for number, name in enumerate("hcafbgde"))
        ranks = Ranks(rows, "p")
        self.same(ranks.chain(), tuple("edgbfach"))
        self.same(ranks.layers(), [(name,) for name in "edgbfach"])
        self.same(len(ranks.all_pairs()), 28)
        self.same((ranks.below("e"), ranks.above("e"), ranks.above("h")), (("a", "b", "c", "d", "f", "g", "h"), (), ("a", "b", "c", "d", "e", "f", "g")))
        self.same(Ranks(rows, "q").chain(), tuple("edgbfach")[::-1])

    def test_nets_that_stand_apart(self):
        nets = tuple((name, Net.of(text)) for name, text in (("z", "weir in 4 p q"), ("y", "weir in 2 q p"), ("x", "divide in 1/2 p q"), ("w", "weir in 1 q r; weir r 3 p s")))
        ranks = Ranks(nets[:3], "p")
        self.same((ranks.all_pairs(), ranks.ties(), ranks.layers(), ranks.chain()), ((), (), [("x", "y", "z")], ("x",)))

    def test_the_least_of_several_longest_chains(self):
        # Both a and b stand above c and d, which stand above z; all chains have three NAMEs.
        for names in permutations(("a", "b", "c", "d", "z")):
            one, two, three, four, last = names
            nets = {
                one: Net.of("weir in 4 a r; divide a 3/4 x y; divide r 1/2 w z; join x w p"),
                two: Net.of("weir in 4 a r; divide a 1/2 x y; divide r 3/4 w z; join x w p"),
                three: Net.of("weir in 4 a r; divide a 1/2 x y; divide r 1/3 w z; join x w p"),
                four: Net.of("weir in 4 a r; divide a 1/3 x y; divide r 4/9 w z; join x w p"),
                last: share(1, 4),
            }
            self.same(told_by(Ranks(tuple(nets.items()), "p")), told_by_walks(nets, "p"))
        ranks = Ranks((("b", share(3, 4)), ("a", share(3, 4)), ("d", HALF), ("c", HALF)), "p")
        self.same(ranks.chain(), ("a", "c"))

    def test_a_short_chain_that_is_less(self):
        # a stands above nothing, b above c: the longer chain is told, though ("a",) is less.
        ranks = Ranks((("a", LATE), ("b", MORE), ("c", HALF)), "p")
        self.same((ranks.chain(), ranks.layers()), (("b", "c"), [("a", "b"), ("c",)]))

    def test_nets_of_unlike_outlets(self):
        ranks = Ranks((("a", Net()), ("b", Net())), "in")
        self.same((ranks.ties(), ranks.chain()), ((("a", "b"),), ("a",)))
        ranks = Ranks((("a", Net.of("weir in 3 p q")), ("b", Net.of("divide in 1/2 x p; divide x 1/4 r s")), ("c", Net.of("weir in 0 p z"))), "p")
        self.same((ranks.all_pairs(), ranks.layers()), ((("a", "c"), ("b", "c")), [("a", "b"), ("c",)]))

    def test_many_nets(self):
        chance, done = random.Random(71), 0
        for net, other in some_pairs(60, 72):
            third = Net(tuple((part[0], part[1], (1, 2), *part[3:]) if part[0] == "divide" else part for part in net.parts))
            nets = dict(zip(chance.sample("abcdefgh", 5), (net, other, third, net, other)))
            outlet = chance.choice(net.outlets)
            if all(outlet in one.outlets for one in nets.values()):
                done += 1
                with self.subTest(nets=[one.text for one in nets.values()], outlet=outlet):
                    self.same(told_by(Ranks(tuple(nets.items()), outlet)), told_by_walks(nets, outlet))
        self.assertGreater(done, 40)

    def test_nets_with_the_same_outlets(self):
        chance = random.Random(73)
        for _ in range(25):
            nets = {}
            for name in chance.sample("abcdefgh", 6):
                one, other, limit = Fraction(chance.randint(0, 3), 3), Fraction(chance.randint(0, 3), 3), chance.randint(0, 3)
                nets[name] = Net((("weir", "in", (limit, 1), "a", "r"), ("divide", "a", (one.numerator, one.denominator), "x", "y"),
                                  ("divide", "r", (other.numerator, other.denominator), "w", "z"), ("join", "x", "w", "p")))
            self.same(told_by(Ranks(tuple(nets.items()), "p")), told_by_walks(nets, "p"))


class ChecksTest(Case):

    def test_known_ahead_of_no_outlet(self):
        self.refuses(Known, {"name": "b"}, Ranks, rows=(("a", HALF), ("b", FIRST), ("b", FIRST), ("a", HALF)), outlet="x")
        self.refuses(Known, {"name": "a"}, Ranks, rows=(("a", HALF), ("b", Net()), ("a", FIRST), ("b", HALF)), outlet="p")
        self.refuses(NoOutlet, {"name": "p"}, Ranks, rows=(("a", HALF), ("b", FIRST), ("c", Net())), outlet="p")
        self.refuses(NoOutlet, {"name": "in"}, Ranks, rows=(("a", HALF),), outlet="in")

    def test_no_net(self):
        ranks = Ranks(ROWS, "p")
        for name in ("x", "in", "p", "aa", "q"):
            self.refuses(NoNet, {"name": name}, ranks.below, name=name)
            self.refuses(NoNet, {"name": name}, ranks.above, name=name)
            self.refused(NoNet, {"name": name}, lambda: ranks[name])
            for other in ("a", "y", "in", name):
                self.refuses(NoNet, {"name": name}, ranks.is_never_less, name=name, other=other)
            self.refuses(NoNet, {"name": name}, ranks.is_never_less, name="a", other=name)
            self.assertIs(name in ranks, False)
            self.assertIs(name not in ranks, True)

    def test_methods_by_names(self):
        ranks = Ranks(ROWS, "p")
        self.told(True, ranks.is_never_less, name="d", other="a")
        self.told(False, ranks.is_never_less, name="a", other="d")
        self.told(("a", "e"), ranks.below, name="d")
        self.told(("d",), ranks.above, name="a")

    def test_rows_that_change_behind_it(self):
        rows = listed(ROWS)
        ranks = Ranks(rows, "p")
        before = repr(told_by(ranks))
        rows[0][0] = "zz"
        rows[1][1] = FIRST
        rows.pop()
        self.same(repr(told_by(ranks)), before)
        self.same(ranks.names, ("a", "b", "c", "d", "e"))
        self.assertTrue(ranks == Ranks(ROWS, "p"))

    def test_what_is_handed_in_stays(self):
        for rows in (ROWS, listed(ROWS), [tuple(row) for row in ROWS], tuple(list(row) for row in ROWS)):
            before = [(type(row), row[0], row[1].parts) for row in rows]
            self.assertTrue(Ranks(rows, "p") == Ranks(rows=rows, outlet="p") == Ranks(ROWS, "p"))
            self.same([(type(row), row[0], row[1].parts) for row in rows], before)

    def test_new_lists(self):
        ranks = Ranks(ROWS, "p")
        ranks.layers().clear()
        ranks.layers().append("x")
        self.same(ranks.layers(), [("b", "c", "d"), ("a", "e")])

    def test_no_setters(self):
        ranks = Ranks(ROWS, "p")
        for name in ("names", "outlet"):
            with self.assertRaises(AttributeError):
                setattr(ranks, name, getattr(ranks, name))

    def test_no_iteration(self):
        for ranks in (Ranks(ROWS, "p"), Ranks((), "p")):
            for call in (iter, list, tuple, sorted, set, dict, enumerate, lambda some: [None for _ in some], lambda some: [*some]):
                with self.assertRaises(TypeError):
                    call(ranks)


class EqualTest(Case):

    def test_equal(self):
        ranks = Ranks(ROWS, "p")
        self.assertTrue(ranks == Ranks(ROWS[::-1], "p"))
        self.assertFalse(ranks != Ranks(ROWS[::-1], "p"))
        self.assertTrue(Ranks((), "p") == Ranks([], "p"))

    def test_unlike(self):
        ranks = Ranks(ROWS, "p")
        for other in (Ranks(ROWS, "q"), Ranks(ROWS[1:], "p"), Ranks((*ROWS[:4], ("f", ROWS[4][1])), "p"), Ranks((*ROWS[:4], ("e", HALF)), "p"), Ranks((), "p")):
            self.assertIs(ranks == other, False)
            self.assertIs(other == ranks, False)
            self.assertIs(ranks != other, True)
        self.assertFalse(Ranks((), "p") == Ranks((), "q"))

    def test_other_things(self):
        ranks = Ranks(ROWS, "p")
        for thing in (None, 0, "p", (), [], ROWS, dict(ROWS), ranks.names, object()):
            self.assertIs(ranks == thing, False)
            self.assertIs(thing == ranks, False)
            self.assertIs(ranks != thing, True)


if __name__ == "__main__":
    unittest.main()
