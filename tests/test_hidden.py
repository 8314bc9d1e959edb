"""[13]: a hidden TABLE."""

import random
import unittest
from fractions import Fraction

from layernets.errors import FlowError, NoFit, NoNet
from layernets.hidden import has_flows, surveyed, told_table
from layernets.nets import Net
from layernets.tables import table_of
from layernets.walks import flow
from tests.support import Case, listed, outflow_by, pair, some_nets, some_shares, table_borders

FLOWS = ((("p", (1, 1)),), (("p", (2, 1)),), (("p", (5, 2)), ("q", (1, 2))))
TABLE = (((2, 1), (("p", (1, 1)),)), (None, (("p", (1, 2)), ("q", (1, 2)))))
P, Q, HALF = (("p", (1, 1)),), (("q", (1, 1)),), (("p", (1, 2)), ("q", (1, 2)))
NET = Net((("weir", "in", (2, 1), "a", "r"), ("weir", "r", (3, 1), "b", "c"), ("join", "a", "c", "d")))


def flows_by(table, count):
    """What comes out for the INFLOWS 1, 2, 3, .., reckoned by Fraction; outlets that got nothing do not stand in it."""
    return tuple(tuple((outlet, pair(amount)) for outlet, amount in sorted(outflow_by(table, number).items())) for number in range(1, count + 1))


def whole_table(chance, names, most):
    """A TABLE whose borders are whole numbers, none greater than most."""
    table = []
    for until in sorted(chance.sample(range(1, most + 1), min(most, chance.randint(0, 6)))):
        shares = some_shares(chance, names)
        if table and table[-1][1] == shares:
            table.pop()
        table.append(((until, 1), shares))
    shares = some_shares(chance, names)
    if table and table[-1][1] == shares:
        table.pop()
    table.append((None, shares))
    return tuple(table)


def whole_tables(count, seed, most):
    chance = random.Random(seed)
    return [whole_table(chance, list(("a", "b", "in", "p", "zz", "abcdefgh")), most) for _ in range(count)]


class ExamplesTest(Case):

    def test_told_table(self):
        self.told(TABLE, told_table, flows=FLOWS)
        self.told(True, has_flows, table=TABLE, flows=FLOWS)
        self.told(False, has_flows, table=((None, (("p", (1, 1)),)),), flows=FLOWS)

    def test_surveyed(self):
        wanted = (((2, 1), (("d", (1, 1)),)), ((5, 1), (("b", (1, 1)),)), (None, (("d", (1, 1)),)))
        self.told(wanted, surveyed, most=6, asker=lambda inflow: flow(NET, inflow))
        self.same(wanted, table_of(NET))

    def test_errors(self):
        self.refuses(NoFit, {}, told_table, flows=((("p", (1, 1)),), (("p", (1, 2)), ("q", (3, 2)))))
        self.refuses(NoFit, {}, told_table, flows=((("p", (1, 2)),),))


class ToldTableTest(Case):

    def test_one_layer(self):
        for count in (1, 2, 41):
            for table in (((None, P),), ((None, HALF),), ((None, (("a", (1, 7)), ("b", (2, 7)), ("c", (4, 7)))),)):
                self.told(table, told_table, flows=flows_by(table, count))

    def test_as_many_layers_as_flows(self):
        table = (*(((number, 1), P if number % 2 else Q) for number in range(1, 41)), (None, P))
        self.same(len(table), 41)
        self.told(table, told_table, flows=flows_by(table, 41))
        self.told((*table[:39], (None, Q)), told_table, flows=flows_by(table, 40))

    def test_a_border_just_below_the_number_of_flows(self):
        for border in (1, 2, 5, 40):
            table = (((border, 1), P), (None, Q))
            self.told(table, told_table, flows=flows_by(table, border + 1))
            # A border as great as there are FLOWs is not told: nothing that came out shows it.
            self.told(((None, P),), told_table, flows=flows_by(table, border))
            self.told(True, has_flows, table=table, flows=flows_by(table, border))

    def test_outlets_that_get_nothing_at_first_or_later(self):
        table = (((1, 1), P), ((3, 1), Q), (None, (("r", (1, 1)),)))
        flows = ((("p", (1, 1)),), (("p", (1, 1)), ("q", (1, 1))), (("p", (1, 1)), ("q", (2, 1))), (("p", (1, 1)), ("q", (2, 1)), ("r", (1, 1))))
        self.same(flows_by(table, 4), flows)
        self.told(table, told_table, flows=flows)
        self.told(True, has_flows, table=table, flows=flows)

    def test_outlets_with_nothing(self):
        flows = ((("a", (0, 1)), ("p", (1, 1)), ("q", (0, 1))), (("p", (2, 1)), ("zz", (0, 1))), (("p", (5, 2)), ("q", (1, 2))))
        self.told(TABLE, told_table, flows=flows)
        self.told(True, has_flows, table=TABLE, flows=flows)
        self.told(((None, P),), told_table, flows=flows[:1])

    def test_an_outlet_that_has_got_something_stands_in_each_flow(self):
        flows = (P, (("q", (2, 1)),))
        self.refuses(NoFit, {}, told_table, flows=flows)
        self.told(False, has_flows, table=((None, P),), flows=flows)

    def test_no_table(self):
        for flows in (
            ((("p", (2, 1)),),),
            ((),),
            ((("p", (0, 1)),),),
            (P, P),
            (P, (("p", (3, 1)),)),
            (P, (("p", (3, 2)), ("q", (1, 3)))),
            (P, (("p", (2, 1)), ("q", (1, 1)))),
            (P, (("p", (2, 1)),), P),
            ((("p", (1, 2)), ("q", (1, 2))), (("p", (9, 4)), ("q", (-1, 4)))),
            ((("p", (1, 2)), ("q", (1, 2))), (("p", (2, 1)),)),
            ((("p", (10 ** 30, 1)),),),
        ):
            with self.subTest(flows=flows):
                self.refuses(NoFit, {}, told_table, flows=flows)
                self.told(False, has_flows, table=((None, P),), flows=flows)

    def test_many_tables(self):
        for table in whole_tables(40, 41, 40):
            for count in (1, 2, 20, 41):
                flows = flows_by(table, count)
                with self.subTest(table=table, count=count):
                    seen = [layer for layer in table if layer[0] is not None and layer[0][0] < count]
                    wanted = (*seen, (None, table[len(seen)][1]))
                    self.told(wanted, told_table, flows=flows)
                    self.told(True, has_flows, table=wanted, flows=flows)
                    self.told(True, has_flows, table=table, flows=flows)

    def test_one_amount_changed(self):
        chance = random.Random(42)
        for table in whole_tables(80, 43, 9):
            flows = [list(row) for row in flows_by(table, 10)]
            row = chance.randrange(10)
            place = chance.randrange(len(flows[row]))
            outlet, amount = flows[row][place]
            flows[row][place] = (outlet, pair(Fraction(*amount) + chance.choice((Fraction(1, 10 ** 12), Fraction(1, 3), 1, 10 ** 12))))
            with self.subTest(flows=flows):
                self.refuses(NoFit, {}, told_table, flows=flows)
                self.told(False, has_flows, table=table, flows=flows)

    def test_amounts_that_change_from_one_outlet_to_another(self):
        # The sum is right in each FLOW, but q loses what it has got.
        flows = [list(row) for row in flows_by((((2, 1), HALF), (None, P)), 4)]
        self.same(flows[2], [("p", (2, 1)), ("q", (1, 1))])
        flows[2] = [("p", (9, 4)), ("q", (3, 4))]
        self.refuses(NoFit, {}, told_table, flows=flows)

    def test_what_is_handed_in_may_change(self):
        flows = listed(FLOWS)
        table = told_table(flows)
        flows[0][0][1][0] = 9
        flows[2].clear()
        self.same(table, TABLE)


class HasFlowsTest(Case):

    def test_another_border(self):
        flows = flows_by(TABLE, 4)
        for border, wanted in (((2, 1), True), ((1, 1), False), ((3, 1), False), ((5, 2), False), ((3, 2), False), ((10 ** 12 * 2 + 1, 10 ** 12), False)):
            self.told(wanted, has_flows, table=((border, P), (None, HALF)), flows=flows)

    def test_borders_that_are_no_whole_numbers(self):
        # Between two whole numbers several TABLES do the same.
        table = (((1, 2), P), (None, Q))
        flows = ((("p", (1, 2)), ("q", (1, 2))), (("p", (1, 2)), ("q", (3, 2))))
        self.told(True, has_flows, table=table, flows=flows)
        self.told(True, has_flows, table=(((1, 2), Q), ((1, 1), P), (None, Q)), flows=flows)
        self.told(True, has_flows, table=(((1, 1), HALF), (None, Q)), flows=flows)
        self.told(False, has_flows, table=(((1, 3), P), (None, Q)), flows=flows)
        self.told((((1, 1), HALF), (None, Q)), told_table, flows=flows)

    def test_a_border_behind_all_flows(self):
        for border, wanted in (((3, 1), True), ((7, 2), True), ((3 * 10 ** 12 - 1, 10 ** 12), False), ((2, 1), False)):
            self.told(wanted, has_flows, table=((border, P), (None, Q)), flows=flows_by(((None, P),), 3))

    def test_an_outlet_more_or_less(self):
        self.told(False, has_flows, table=((None, P),), flows=(HALF,))
        self.told(False, has_flows, table=((None, HALF),), flows=(P,))
        self.told(False, has_flows, table=((None, P),), flows=(Q,))
        self.told(False, has_flows, table=((None, P),), flows=((),))
        self.told(True, has_flows, table=((None, P),), flows=((*P, ("q", (0, 1))),))

    def test_the_last_flow_alone_is_wrong(self):
        flows = flows_by(TABLE, 7)
        self.told(True, has_flows, table=TABLE, flows=flows)
        self.told(False, has_flows, table=TABLE, flows=(*flows[:-1], (("p", (7, 1)),)))

    def test_tables_and_shares_of_others(self):
        tables = whole_tables(30, 44, 6)
        for one in tables:
            flows = flows_by(one, 8)
            for other in tables:
                with self.subTest(one=one, other=other):
                    self.same(has_flows(other, flows), one == other)


class SurveyedTest(Case):

    def test_nets_with_whole_borders(self):
        found = 0
        for net in some_nets(300, 45, 8):
            table = table_of(net)
            places = table_borders(table)
            if any(place.denominator != 1 for place in places):
                continue
            found += 1
            least = int(max(places, default=0))
            for most in {least, least + 1, 40}:
                with self.subTest(text=net.text, most=most):
                    self.same(surveyed(most, lambda inflow: flow(net, inflow)), table)
        self.assertGreater(found, 100)

    def test_tables(self):
        for table in whole_tables(60, 46, 40):
            rows = []

            def asker(inflow):
                rows.append(inflow)
                return tuple((outlet, pair(amount)) for outlet, amount in sorted(outflow_by(table, Fraction(*inflow)).items()))

            self.same(surveyed(40, asker), table)
            # Each one is an INFLOW, a tuple.
            for inflow in rows:
                self.same(inflow, pair(Fraction(*inflow)))

    def test_most_of_0(self):
        self.told(((None, (("in", (1, 1)),)),), surveyed, most=0, asker=lambda inflow: flow(Net(), inflow))
        self.told(((None, HALF),), surveyed, most=0, asker=lambda inflow: flow(Net.of("divide in 1/2 p q"), inflow))

    def test_a_border_of_exactly_most(self):
        for most in (1, 2, 7, 39, 40):
            net = Net((("weir", "in", (most, 1), "p", "q"),))
            self.told((((most, 1), P), (None, Q)), surveyed, most=most, asker=lambda inflow: flow(net, inflow))

    def test_outlets_that_get_nothing(self):
        net = Net.of("weir in 0 a b; weir b 3 c d; weir d 0 e f")
        self.told(table_of(net), surveyed, most=3, asker=lambda inflow: flow(net, inflow))

    def test_an_asker_with_lists(self):
        self.told(table_of(NET), surveyed, most=5, asker=lambda inflow: listed(flow(NET, inflow)))

    def test_an_asker_with_one_list_for_all(self):
        held = []

        def asker(inflow):
            held[:] = listed(flow(NET, inflow))
            return held

        self.told(table_of(NET), surveyed, most=5, asker=asker)

    def test_what_asker_raises_is_passed_on(self):
        for error in (NoNet("x"), NoFit(), FlowError(), ValueError("no"), KeyError("k"), TypeError("t"), ZeroDivisionError(), RuntimeError("r"), StopIteration(), BaseException("b")):
            for many in (0, 1, 3):
                calls = []

                def asker(inflow):
                    calls.append(inflow)
                    if len(calls) > many:
                        raise error
                    return flow(NET, inflow)

                with self.subTest(error=error, many=many):
                    with self.assertRaises(type(error)) as caught:
                        surveyed(6, asker)
                    self.assertIs(caught.exception, error)
                    self.same(len(calls), many + 1)

    def test_no_fit(self):
        self.refuses(NoFit, {}, surveyed, most=0, asker=lambda inflow: ())
        self.refuses(NoFit, {}, surveyed, most=4, asker=lambda inflow: P)
        self.refuses(NoFit, {}, surveyed, most=4, asker=lambda inflow: (("p", pair(Fraction(*inflow) / 2)),))
        self.refuses(NoFit, {}, surveyed, most=4, asker=lambda inflow: (("p", pair(Fraction(*inflow) * 2)),))
        self.refuses(NoFit, {}, surveyed, most=4, asker=lambda inflow: (("p", pair(Fraction(*inflow) ** 2)),))
        # All of it changes from one outlet to the other.
        self.refuses(NoFit, {}, surveyed, most=4, asker=lambda inflow: (("q" if inflow == (3, 1) else "p", inflow),))

    def test_asker_by_name(self):
        self.same(surveyed(asker=lambda inflow: flow(NET, inflow), most=6), table_of(NET))


if __name__ == "__main__":
    unittest.main()
