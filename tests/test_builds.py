"""[8]: Nets with a given TABLE."""

import unittest
from fractions import Fraction
from itertools import combinations

from layernets.alike import against, alike, idle_weirs, is_against, same_up_to, unlike_outlets
from layernets.basics import is_name
from layernets.builds import fewest_weirs, is_net_of, leanest, net_of
from layernets.nets import Net, first_parts, is_part, made_by, renamed, taken_by, with_part
from layernets.tables import amounts, borders, is_table, outlets_of, place_of_weir, table_of
from layernets.walks import flow, flow_of, passed, walked
from tests.support import Case, around, cuts, layers, listed, outflow, outflow_by, pair, some_nets, some_tables, table_borders

P, Q, HALVES = (("p", (1, 1)),), (("q", (1, 1)),), (("p", (1, 2)), ("q", (1, 2)))
TABLE = (((3, 1), P), ((7, 1), HALVES), (None, Q))
WIDE = Net((("weir", "in", (3, 1), "a", "r"), ("join", "a", "r", "b"), ("weir", "b", (4, 1), "p", "q"), ("weir", "q", (0, 1), "x", "y")))
GREAT = 10 ** 12
EIGHT = tuple((name, (1, 8)) for name in "abcdefgh")
TABLES = (
    ((None, (("x", (1, 1)),)),),
    ((None, (("in", (1, 1)),)),),
    ((None, (("a", (1, 1)),)),),
    ((None, HALVES),),
    ((None, EIGHT),),
    ((None, (("a", (999, 1000)), ("inn", (1, 1000)))),),
    TABLE, TABLE[1:],
    (((3, 1), P), (None, Q)),
    # A NAME that comes again in a later LAYER, also as the only one.
    (((3, 1), P), ((4, 1), Q), (None, P)),
    (((1, 3), P), ((1, 2), HALVES), ((1, 1), P), ((2, 1), HALVES), (None, P)),
    # OUTLETS that stand in some LAYERS only.
    (((1, 1), (("a", (1, 3)), ("b", (2, 3)))), ((2, 1), (("c", (1, 1)),)), ((3, 1), (("a", (1, 7)), ("d", (6, 7)))), (None, (("e", (1, 1)),))),
    (((1, GREAT), P), ((GREAT, 1), Q), (None, P)),
    tuple(((number, 1), EIGHT if number % 2 else EIGHT[:-2] + (("z", (1, 4)),)) for number in range(1, 8)) + ((None, EIGHT[:-2] + (("z", (1, 4)),)),),
    tuple(((number, 3) if number % 3 else (number // 3, 1), ((name, (1, 1)),)) for number, name in enumerate("abcdefgh", 1))[:7] + ((None, (("h", (1, 1)),)),),
    # The NAMEs that come first to mind are taken.
    (((1, 1), tuple((name, (1, 4)) for name in "abcd")), ((2, 1), tuple((name, (1, 4)) for name in "efgh")), (None, (("ba", (1, 2)), ("bb", (1, 2))))),
)


class ExamplesTest(Case):

    def test_given_table(self):
        net = net_of(TABLE)
        self.told(2, fewest_weirs, table=TABLE)
        self.same((net.weirs, net.outlets, table_of(net) == TABLE), (2, ("p", "q"), True))
        self.told(True, is_net_of, table=TABLE, net=net)
        self.told(False, is_net_of, table=TABLE[1:], net=net)
        self.same(table_of(net_of(((None, (("x", (1, 1)),)),))), ((None, (("x", (1, 1)),)),))

    def test_leanest(self):
        self.same((WIDE.weirs, leanest(WIDE).weirs, leanest(WIDE).outlets), (3, 1, ("p", "y")))
        self.same(table_of(leanest(WIDE)), (((4, 1), P), (None, (("y", (1, 1)),))))


class NetOfTest(Case):

    def fits(self, table, net):
        """The Net has this TABLE, just its OUTLETS, and no weir too many."""
        self.same(table_of(net), table)
        self.same(layers(net), table)
        self.same(net.weirs, len(table) - 1)
        self.same(net.outlets, outlets_of(table))
        self.assertTrue(all(is_name(channel) for channel in net.channels))
        self.assertTrue(all(is_part(part) for part in net.parts))
        self.assertTrue(Net(net.parts) == net)
        self.assertTrue(Net.of(net.text) == net)

    def test_tables(self):
        for table in TABLES:
            with self.subTest(table):
                self.assertIs(is_table(table), True)
                self.told(len(table) - 1, fewest_weirs, table=table)
                net = self.steady(net_of, table=table)
                self.fits(table, net)
                self.told(True, is_net_of, table=table, net=net)

    def test_many_tables(self):
        for table in some_tables(80, 13):
            with self.subTest(table):
                net = net_of(table)
                self.fits(table, net)
                self.same(fewest_weirs(table), len(borders(table)))
                for inflow in around(table_borders(table)):
                    self.assertEqual(outflow(net, inflow), outflow_by(table, inflow))

    def test_the_outlet_in_alone(self):
        self.assertTrue(net_of(((None, (("in", (1, 1)),)),)) == Net())

    def test_lists(self):
        for table in TABLES:
            self.assertTrue(net_of(listed(table)) == net_of(table))
            self.same(fewest_weirs(listed(table)), len(table) - 1)
            self.assertIs(is_net_of(listed(table), net_of(table)), True)

    def test_it_may_be_handed_in(self):
        for table in TABLES:
            net = net_of(table)
            for inflow in ((0, 1), (7, 3), (GREAT, 1)):
                told = flow(net, inflow)
                self.same(told, amounts(table, inflow))
                self.same(dict(walked(net, inflow))["in"], inflow)
                for outlet, amount in told:
                    self.same((flow_of(net, outlet, inflow), passed(net, outlet, inflow)), (amount, amount))
                self.same(is_against(net, net, inflow), False)
            self.same((alike(net, net), against(net, net), same_up_to(net, net), unlike_outlets(net, net)), (True, None, None, ()))
            self.same(idle_weirs(net), ())
            places = [place_of_weir(net, place) for place, part in enumerate(net.parts) if part[0] == "weir"]
            self.same(sorted(places, key=lambda place: Fraction(*place)), borders(table))
            self.same(table_of(leanest(net)), table)
            self.assertTrue(first_parts(net, len(net)) == net)
            for channel in net.channels:
                made_by(net, channel)
                taken_by(net, channel)
            outlet = net.outlets[0]
            more = with_part(net, ("weir", outlet, (1, 1), "farone", "fartwo"))
            self.same(more.weirs, net.weirs + 1)
            if outlet != "in":
                self.assertIn("newone", renamed(net, outlet, "newone").outlets)

    def test_more_layers_than_the_bounds_let(self):
        names = sorted({"".join(row) for row in combinations("abcdefgh", 2)})
        table = tuple(((number + 1, 1), ((names[number % 7], (1, 3)), (names[7 + number], (2, 3)))) for number in range(20)) + ((None, ((names[0], (1, 1)),)),)
        self.assertIs(is_table(table), True)
        self.fits(table, net_of(table))


class FewestWeirsTest(Case):

    def test_no_net_has_fewer(self):
        for net in some_nets(130, 14):
            with self.subTest(net.text):
                self.assertLessEqual(fewest_weirs(table_of(net)), net.weirs)
                self.same(fewest_weirs(table_of(net)), len(layers(net)) - 1)


class IsNetOfTest(Case):

    def test_tables_that_are_the_nets_or_not(self):
        for table in TABLES:
            for other in TABLES:
                self.told(table == other, is_net_of, table=table, net=net_of(other))

    def test_one_border_or_one_share(self):
        net = net_of(TABLE)
        for table in ((((3, 1), P), ((8, 1), HALVES), (None, Q)), (((3, 1), P), ((7, 1), (("p", (1, 3)), ("q", (2, 3)))), (None, Q)),
                      (((3, 1), P), ((7, 1), HALVES), (None, P)), (((3, 1), P), ((7, 1), HALVES), (None, (("x", (1, 1)),))), (((3, 1), P), (None, HALVES))):
            self.told(False, is_net_of, table=table, net=net)

    def test_outlets_that_never_get_anything(self):
        self.told(True, is_net_of, table=(((4, 1), P), (None, (("y", (1, 1)),))), net=WIDE)
        self.told(True, is_net_of, table=((None, (("in", (1, 1)),)),), net=Net())


class LeanestTest(Case):

    def test_small_nets(self):
        for text, weirs, outlets in (("-", 0, ("in",)), ("weir in 0 a b", 0, ("b",)), ("weir in 3 a b; join a b c", 0, ("c",)), ("divide in 1 a b", 0, ("a",)),
                                     ("weir in 3 a b; weir a 3 c d", 1, ("b", "c")), ("weir in 2 a b; weir b 3 c d; join a c e", 1, ("d", "e"))):
            net = Net.of(text)
            got = self.steady(leanest, net=net)
            self.same((got.weirs, got.outlets, table_of(got)), (weirs, outlets, table_of(net)))

    def test_many_nets(self):
        for net in some_nets(130, 15):
            with self.subTest(net.text):
                got = leanest(net)
                self.same(layers(got), layers(net))
                self.same(got.weirs, len(layers(net)) - 1)
                far = outflow(net, max([Fraction(0), *cuts(net)]) + 1)
                self.same(got.outlets, tuple(sorted(far)))
                for inflow in around(cuts(net)):
                    self.assertEqual(outflow(got, inflow), outflow(net, inflow))
                self.assertTrue(leanest(net) == got)

    def test_shares_of_great_bottoms(self):
        parts = [("divide", "in", (997, 1000), "ca", "a")]
        for one, other, top in zip("abcdefg", "bcdefgh", (991, 993, 989, 983, 981, 979, 977)):
            parts.append(("divide", "c" + one, (top, 1000), "c" + other, other))
        net = Net(parts)
        self.same(table_of(leanest(net)), table_of(net))
        self.same(pair(sum(Fraction(*share) for _, share in table_of(net)[0][1])), (1, 1))


if __name__ == "__main__":
    unittest.main()
