"""[18]: one inflow behind another."""

import random
import unittest
from fractions import Fraction

from layernets.errors import NoOutlet
from layernets.nets import Net
from layernets.sums import brought, more_for, sums_of, table_after
from layernets.tables import is_table, table_of
from tests.support import Case, around, cuts, listed, outflow_by, pair, some_nets, some_tables, table_borders, walk

NET = Net.of("weir in 3 a r; divide r 1/2 s t; join a s j; weir j 5 p q")
TABLE = (((3, 1), (("p", (1, 1)),)), ((7, 1), (("p", (1, 2)), ("t", (1, 2)))), (None, (("q", (1, 2)), ("t", (1, 2)))))
TINY = Fraction(1, 10 ** 15)


def brought_by_walks(net, inflow, more):
    """How much more each outlet gets, by two walks."""
    before, now = walk(net.parts, inflow), walk(net.parts, Fraction(inflow) + more)
    return tuple((outlet, pair(now[outlet] - before[outlet])) for outlet in net.outlets)


class ExamplesTest(Case):

    def test_table_after(self):
        self.same(table_of(NET), TABLE)
        self.told((((3, 1), (("p", (1, 2)), ("t", (1, 2)))), (None, (("q", (1, 2)), ("t", (1, 2))))), table_after, table=TABLE, amount=(4, 1))
        self.told(TABLE[2:], table_after, table=TABLE, amount=(7, 1))

    def test_brought(self):
        self.told((("p", (2, 1)), ("q", (0, 1)), ("t", (1, 1))), brought, net=NET, inflow=(2, 1), more=(3, 1))
        self.told((("p", (0, 1)), ("q", (1, 2)), ("t", (1, 2))), brought, net=NET, inflow=(7, 1), more=(1, 1))

    def test_sums_of(self):
        self.same(sums_of(NET, ((3, 1), (0, 1), (5, 1)))[2], (("p", (2, 1)), ("q", (1, 2)), ("t", (5, 2))))
        self.told([], sums_of, net=NET, inflows=())

    def test_more_for(self):
        for inflow, outlet, amount, wanted in (((2, 1), "p", (2, 1), (3, 1)), ((2, 1), "p", (4, 1), None), ((0, 1), "q", (1, 1), (9, 1)), ((9, 1), "p", (0, 1), (0, 1)), ((9, 1), "t", (1, 3), (2, 3))):
            self.told(wanted, more_for, net=NET, inflow=inflow, outlet=outlet, amount=amount)

    def test_no_outlet(self):
        self.refuses(NoOutlet, {"name": "s"}, more_for, net=NET, inflow=(0, 1), outlet="s", amount=(1, 1))


class TableAfterTest(Case):

    def test_places(self):
        first, second, last = (shares for _, shares in TABLE)
        great = 10 ** 12
        for amount, wanted in (
            ((0, 1), TABLE),
            ((1, 1), (((2, 1), first), ((6, 1), second), (None, last))),
            ((3 * great - 1, great), (((1, great), first), ((4 * great + 1, great), second), (None, last))),
            ((3, 1), (((4, 1), second), (None, last))),
            ((3 * great + 1, great), (((4 * great - 1, great), second), (None, last))),
            ((13, 2), (((1, 2), second), (None, last))),
            ((7, 1), ((None, last),)),
            ((7 * great + 1, great), ((None, last),)),
            ((great, 1), ((None, last),)),
            ((10 ** 30, 1), ((None, last),)),
        ):
            self.told(wanted, table_after, table=TABLE, amount=amount)

    def test_one_layer(self):
        for amount in ((0, 1), (1, 3), (10 ** 12, 1)):
            self.told(TABLE[2:], table_after, table=TABLE[2:], amount=amount)

    def test_for_all_amounts(self):
        for table in some_tables(40, 91):
            for x in around(table_borders(table))[::3]:
                after = table_after(table, pair(x))
                self.assertTrue(is_table(after))
                whole = outflow_by(table, x)
                for y in around(table_borders(after), [border - x for border in table_borders(table) if border > x])[::2]:
                    got, both = outflow_by(after, y), outflow_by(table, x + y)
                    self.assertEqual({outlet: whole.get(outlet, 0) + got.get(outlet, 0) for outlet in {*whole, *got}}, both)

    def test_one_behind_another(self):
        for table in some_tables(24, 92):
            for x in around(table_borders(table))[::4]:
                self.told(table_after(table, pair(x)), table_after, table=table, amount=pair(x))
                for y in (Fraction(0), Fraction(1, 3), Fraction(5)):
                    self.same(table_after(table_after(table, pair(x)), pair(y)), table_after(table, pair(x + y)))

    def test_what_is_handed_in_may_change(self):
        table, amount = listed(TABLE), [4, 1]
        after = table_after(table, amount)
        table[1][1][0][1][0] = 9
        amount[0] = 0
        self.same(after, table_after(TABLE, (4, 1)))


class BroughtTest(Case):

    def test_nothing_more(self):
        for inflow in ((0, 1), (3, 1), (10 ** 12, 1)):
            self.told((("p", (0, 1)), ("q", (0, 1)), ("t", (0, 1))), brought, net=NET, inflow=inflow, more=(0, 1))

    def test_outlets_that_get_nothing(self):
        self.told((("c", (0, 1)), ("d", (2, 1)), ("p", (0, 1))), brought, net=Net.of("weir in 0 p q; weir q 1 c d"), inflow=(1, 1), more=(2, 1))
        self.told((("in", (7, 2)),), brought, net=Net(), inflow=(5, 1), more=(7, 2))

    def test_many_nets(self):
        chance = random.Random(93)
        for net in some_nets(60, 94):
            places = around(cuts(net))
            for _ in range(6):
                inflow, more = chance.choice(places), chance.choice(places)
                self.same(brought(net, pair(inflow), pair(more)), brought_by_walks(net, inflow, more))

    def test_as_the_table_after_tells(self):
        for net in some_nets(30, 95):
            for inflow in around(cuts(net))[::4]:
                after = table_after(table_of(net), pair(inflow))
                for more in around(table_borders(after))[::4]:
                    got = {outlet: Fraction(*amount) for outlet, amount in brought(net, pair(inflow), pair(more)) if amount != (0, 1)}
                    self.assertEqual(got, outflow_by(after, more))


class SumsOfTest(Case):

    def test_each_one_behind_those_ahead(self):
        wanted = [(("p", (3, 1)), ("q", (0, 1)), ("t", (0, 1))), (("p", (0, 1)), ("q", (0, 1)), ("t", (0, 1))), (("p", (2, 1)), ("q", (1, 2)), ("t", (5, 2)))]
        self.told(wanted, sums_of, net=NET, inflows=((3, 1), (0, 1), (5, 1)))
        self.told(wanted[:1], sums_of, net=NET, inflows=((3, 1),))

    def test_many(self):
        chance = random.Random(96)
        for net in some_nets(40, 97):
            inflows = tuple(pair(Fraction(chance.randint(0, 9), chance.randint(1, 4))) for _ in range(chance.choice((1, 2, 5, 20))))
            wanted, inflow = [], Fraction(0)
            for more in inflows:
                wanted.append(brought_by_walks(net, inflow, Fraction(*more)))
                inflow += Fraction(*more)
            self.told(wanted, sums_of, net=net, inflows=inflows)

    def test_new_lists(self):
        first = sums_of(NET, ((3, 1), (5, 1)))
        first.clear()
        self.same(len(sums_of(NET, ((3, 1), (5, 1)))), 2)
        none = sums_of(NET, ())
        none.append(1)
        self.same(sums_of(NET, ()), [])


class MoreForTest(Case):

    def beside(self, net, inflow, outlet, amount):
        """With what is told the outlet gets so much more, with anything less it does not."""
        more = more_for(net, pair(inflow), outlet, pair(amount))
        before = walk(net.parts, inflow)[outlet]
        with self.subTest(text=net.text, inflow=inflow, outlet=outlet, amount=amount, more=more):
            if more is None:
                self.assertLess(walk(net.parts, inflow + 10 ** 15)[outlet] - before, amount)
                last = walk(net.parts, max(cuts(net), default=0))[outlet]
                self.assertEqual(walk(net.parts, 10 ** 15)[outlet], last)
                return None
            more = Fraction(*more)
            self.assertGreaterEqual(walk(net.parts, inflow + more)[outlet] - before, amount)
            if more > 0:
                self.assertLess(walk(net.parts, inflow + more - min(TINY, more))[outlet] - before, amount)
            else:
                self.assertEqual(amount, 0)
            return pair(more)

    def test_an_amount_of_0(self):
        for inflow in ((0, 1), (3, 1), (7, 1), (10 ** 12, 1)):
            for outlet in NET.outlets:
                self.told((0, 1), more_for, net=NET, inflow=inflow, outlet=outlet, amount=(0, 1))

    def test_levels(self):
        net = Net.of("weir in 2 a b; weir b 3 x d; join a d p")
        for inflow, amount, wanted in ((0, 2, (2, 1)), (0, 3, (6, 1)), (2, 1, (4, 1)), (3, 1, (3, 1)), (5, 1, (1, 1)), (6, 1, (1, 1)), (1, 1, (1, 1)), (1, Fraction(1) + TINY, (4 * 10 ** 15 + 1, 10 ** 15))):
            self.same(self.beside(net, Fraction(inflow), "p", Fraction(amount)), wanted)
        self.same(self.beside(net, Fraction(1), "x", Fraction(3)), (4, 1))
        self.same(self.beside(net, Fraction(4), "x", Fraction(1)), (1, 1))
        self.same(self.beside(net, Fraction(4), "x", Fraction(1) + TINY), None)
        self.same(self.beside(net, Fraction(5), "x", TINY), None)

    def test_no_outlet_ahead_of_all_else(self):
        for net, outlet in ((NET, "in"), (NET, "a"), (NET, "j"), (NET, "zz"), (Net(), "p")):
            for inflow in ((0, 1), (9, 1)):
                for amount in ((0, 1), (1, 1)):
                    self.refuses(NoOutlet, {"name": outlet}, more_for, net=net, inflow=inflow, outlet=outlet, amount=amount)

    def test_many_nets(self):
        chance = random.Random(98)
        for net in some_nets(60, 99):
            places = around(cuts(net))
            for _ in range(5):
                inflow, outlet = chance.choice(places), chance.choice(net.outlets)
                more = chance.choice(places)
                amount = walk(net.parts, inflow + more)[outlet] - walk(net.parts, inflow)[outlet]
                got = self.beside(net, inflow, outlet, amount)
                self.assertLessEqual(Fraction(*got), more)
                self.told(got, more_for, net=net, inflow=pair(inflow), outlet=outlet, amount=pair(amount))
                self.beside(net, inflow, outlet, amount + Fraction(1, 3))


if __name__ == "__main__":
    unittest.main()
