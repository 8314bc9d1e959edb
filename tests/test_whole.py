"""The whole document: what the points say of one another."""

import random
import unittest
from fractions import Fraction

from layernets.alike import against, alike, is_against, same_up_to, unlike_outlets
from layernets.back import greatest_amount, inflow_for, least_inflow, most_inflow
from layernets.board import Board
from layernets.builds import fewest_weirs, is_net_of, leanest, net_of
from layernets.chains import behind, mixed, table_behind, weired
from layernets.changes import Watch
from layernets.desk import answers
from layernets.hidden import has_flows, surveyed, told_table
from layernets.lead import compare, less_at, most_lead, never_less
from layernets.moves import exchanged_parts, limit_changed, limit_for, unchanged_to
from layernets.nets import Net, first_parts, renamed, with_part
from layernets.prices import inflow_worth, never_worth_less, worth
from layernets.ranks import Ranks
from layernets.rules import by_share, evenly, in_turn, topmost
from layernets.sums import brought, more_for, sums_of, table_after
from layernets.tables import amount_of, amounts, borders, is_table, outlets_of, place_of_weir, table_of
from layernets.texts import amount_text, shares_text
from layernets.walks import flow, flow_of, passed, walked
from tests.support import LIMITS, Case, around, cuts, listed, outflow, outflow_by, pair, shown, some_nets, some_pairs, some_tables, table_borders

TABLES = some_tables(24, 121)
NETS = some_nets(40, 122)


def gotten(pairs):
    """Those pairs of a FLOW in which something comes."""
    return tuple(row for row in pairs if row[1] != (0, 1))


class NetsTest(Case):

    def test_a_net_and_its_table(self):
        for net in NETS:
            table = table_of(net)
            self.assertTrue(is_table(table))
            self.assertLessEqual(len(borders(table)), net.weirs)
            for inflow in around(cuts(net)):
                got = flow(net, pair(inflow))
                self.same(gotten(got), gotten(amounts(table, pair(inflow))))
                self.same({outlet: Fraction(*amount) for outlet, amount in gotten(got)}, outflow(net, inflow))
                self.same(inflow_for(net, got), pair(inflow))
                self.same(tuple(row for row in walked(net, pair(inflow)) if row[0] in net.outlets), got)
                for outlet, amount in got:
                    self.same((flow_of(net, outlet, pair(inflow)), passed(net, outlet, pair(inflow)), amount_of(table, outlet, pair(inflow))), (amount,) * 3)

    def test_the_leanest_net(self):
        for net in NETS:
            lean, table = leanest(net), table_of(net)
            self.assertTrue(alike(net, lean) and is_net_of(table, lean) and is_net_of(table, net))
            self.same((lean.weirs, fewest_weirs(table), len(borders(table))), (lean.weirs,) * 3)
            self.same(lean.outlets, outlets_of(table))
            self.same((against(net, lean), same_up_to(net, lean), unlike_outlets(net, lean)), (None, None, ()))
            # Each border is the place of a weir of a Net that has as few as can be.
            places = [place_of_weir(lean, place) for place, part in enumerate(lean.parts) if part[0] == "weir"]
            self.same(sorted(places, key=lambda place: Fraction(*place)), borders(table))
            for outlet in lean.outlets:
                self.same(compare(net, lean, outlet), "alike")
                self.same((greatest_amount(net, outlet), least_inflow(net, outlet, (1, 1)), most_inflow(net, outlet, (1, 1))),
                          (greatest_amount(lean, outlet), least_inflow(lean, outlet, (1, 1)), most_inflow(lean, outlet, (1, 1))))

    def test_borders_are_places_of_weirs(self):
        for net in NETS:
            places = [place_of_weir(net, place) for place, part in enumerate(net.parts) if part[0] == "weir"]
            for border in borders(table_of(net)):
                self.assertIn(border, places)

    def test_tables_and_nets(self):
        for table in TABLES:
            net = net_of(table)
            self.assertTrue(is_net_of(table, net))
            self.same((table_of(net), net.outlets, net.weirs), (table, outlets_of(table), fewest_weirs(table)))
            for inflow in around(table_borders(table)):
                self.same(flow(net, pair(inflow)), amounts(table, pair(inflow)))
            self.assertTrue(Net.of(net.text) == net)

    def test_unlike_nets(self):
        for one, other in some_pairs(60, 123):
            place = against(one, other)
            self.same(place is None, table_of(one) == table_of(other))
            if place is None:
                continue
            self.assertTrue(is_against(one, other, place))
            unlike = [outlet for outlet in unlike_outlets(one, other) if outlet in one.outlets and outlet in other.outlets]
            for outlet in unlike:
                self.assertNotEqual(compare(one, other, outlet), "alike")
            for outlet in one.outlets:
                if outlet in other.outlets and outlet not in unlike:
                    self.same((compare(one, other, outlet), most_lead(one, other, outlet)), ("alike", (0, 1)))


class ChainsAndMovesTest(Case):

    def test_chains(self):
        chance = random.Random(124)
        for net in some_nets(30, 125, 6):
            other, outlet = chance.choice(some_nets(20, 126, 5)[1:]), chance.choice(net.outlets)
            other = Net(tuple(tuple("u" + item if number and isinstance(item, str) and item != "in" else item for number, item in enumerate(part)) for part in other.parts))
            both = behind(net, outlet, other)
            self.same(table_of(both), table_behind(table_of(net), outlet, table_of(other)) if len(other) else table_of(net))
            for inflow in around(cuts(both))[::3]:
                come = flow_of(net, outlet, pair(inflow))
                wanted = sorted([row for row in flow(net, pair(inflow)) if row[0] != outlet] + list(flow(other, come) if len(other) else [(outlet, come)]))
                self.same(flow(both, pair(inflow)), tuple(wanted))

    def test_tables_are_made_by_mixed_and_weired(self):
        for table in TABLES:
            layers, whole = [], None
            for until, shares in table:
                # SHARES are mixed one outlet behind another.
                mix, sum_of = None, Fraction(0)
                for outlet, share in shares:
                    sum_of += Fraction(*share)
                    single = ((None, ((outlet, (1, 1)),)),)
                    mix = single if mix is None else mixed(single, mix, pair(Fraction(*share) / sum_of))
                layers.append((until, mix))
            begins = [Fraction(0), *table_borders(table)]
            for begin, (until, mix) in list(zip(begins, layers))[::-1]:
                whole = mix if whole is None else weired(mix, pair(Fraction(*until) - begin), whole)
            self.same(whole, table)

    def test_moves(self):
        chance = random.Random(127)
        for net in NETS:
            for place, part in enumerate(net.parts):
                if part[0] == "weir":
                    limit = chance.choice(LIMITS)
                    other = limit_changed(net, place, limit)
                    self.same(unchanged_to(net, place, limit), same_up_to(net, other))
                    self.same(passed(net, part[1], (7, 2)), limit_for(net, place, (7, 2)))
                    self.assertTrue(limit_changed(other, place, part[2]) == net)
                if place + 1 < len(net) and not set(part[3:]) & set(net.parts[place + 1][1:3]):
                    turned = exchanged_parts(net, place)
                    self.assertTrue(alike(net, turned) and table_of(net) == table_of(turned))
                    self.assertTrue(exchanged_parts(turned, place) == net)

    def test_a_watch_and_a_board_tell_as_the_functions_do(self):
        for net in NETS:
            watch, board = Watch(Net()), Board()
            board.put("x", Net())
            for number, part in enumerate(net.parts):
                self.same(watch.lay(part), table_of(first_parts(net, number + 1)))
                board.lay("x", part)
                self.assertTrue(board["x"] == watch.net == first_parts(net, number + 1))
                self.same(board.table("x"), watch.told[-1])
            self.same(watch.told, tuple(table_of(first_parts(net, number)) for number in range(len(net) + 1)))
            for number in range(len(net), 0, -1):
                self.assertTrue(board["x"] == watch.net == first_parts(net, number))
                watch.back()
                board.undo()
            self.same((board["x"], watch.net, len(watch), board.deeds), (Net(), Net(), 0, 1))

    def test_renamed_channels_change_no_table_but_by_their_name(self):
        for net in NETS[1:]:
            for channel in net.channels:
                if channel != "in" and channel not in net.outlets:
                    self.assertTrue(alike(net, renamed(net, channel, "zzz")))


class AmountsTest(Case):

    def test_claims_as_nets(self):
        claims = (("cara", (3, 1)), ("ann", (1, 1)), ("bob", (5, 2)))
        for rule in (in_turn, by_share, evenly, topmost):
            net = net_of(rule(claims))
            self.same(net.outlets, ("ann", "bob", "cara", "rest"))
            for name, amount in claims:
                # Each one gets just the claim, of as much as all claims are.
                self.same((greatest_amount(net, name), flow_of(net, name, (13, 2)), flow_of(net, name, (10 ** 12, 1))), (amount,) * 3)
            self.same(most_inflow(net, "rest", (0, 1)), (13, 2))
        ranks = Ranks(tuple((rule.__name__.replace("_", ""), net_of(rule(claims))) for rule in (in_turn, by_share, evenly, topmost)), "cara")
        self.same(ranks.all_pairs(), (("byshare", "evenly"), ("inturn", "byshare"), ("inturn", "evenly"), ("inturn", "topmost"), ("topmost", "byshare"), ("topmost", "evenly")))
        self.same(ranks.chain(), ("inturn", "topmost", "byshare", "evenly"))

    def test_least_and_more(self):
        for net in NETS:
            for outlet in net.outlets:
                for amount in ((0, 1), (1, 2), (3, 1)):
                    least = least_inflow(net, outlet, amount)
                    self.same(more_for(net, (0, 1), outlet, amount), least)
                    prices = tuple((name, 1 if name == outlet else 0) for name in net.outlets)
                    self.same(inflow_worth(net, prices, amount), least)
                    if least is not None:
                        self.same(flow_of(net, outlet, least), amount)
                        self.same(worth(net, prices, least), amount)

    def test_sums(self):
        for net in NETS:
            inflows = ((1, 1), (1, 2), (0, 1), (3, 1), (22, 7))
            rows, inflow = sums_of(net, inflows), Fraction(0)
            for more, row in zip(inflows, rows):
                self.same(row, brought(net, pair(inflow), more))
                self.same(gotten(row), gotten(amounts(table_after(table_of(net), pair(inflow)), more)))
                inflow += Fraction(*more)
            self.same(flow(net, pair(inflow)), tuple((outlet, pair(sum(Fraction(*dict(row)[outlet]) for row in rows))) for outlet in net.outlets))

    def test_prices_and_never_less(self):
        for one, other in some_pairs(50, 128):
            for outlet in one.outlets:
                if outlet in other.outlets:
                    prices = tuple((name, 1 if name == outlet else 0) for name in sorted({*one.outlets, *other.outlets}))
                    self.same(never_worth_less(one, other, prices), never_less(one, other, outlet))
                    ranks = Ranks((("one", one), ("other", other)), outlet)
                    self.same((ranks.is_never_less("one", "other"), ranks.is_never_less("other", "one")), (never_less(one, other, outlet), never_less(other, one, outlet)))
                    self.same(less_at(one, other, outlet) is None, compare(one, other, outlet) in ("more", "alike"))

    def test_hidden_tables(self):
        for net in NETS:
            table = table_of(net)
            flows = tuple(flow(net, (number, 1)) for number in range(1, 30))
            self.assertTrue(has_flows(table, flows))
            if all(border.denominator == 1 and border < 29 for border in table_borders(table)):
                self.same((told_table(flows), surveyed(28, lambda inflow: flow(net, inflow))), (table, table))
            else:
                self.assertTrue(has_flows(told_table(flows), flows))

    def test_flows_by_tables(self):
        for table in TABLES:
            for inflow in around(table_borders(table)):
                self.assertEqual({outlet: Fraction(*amount) for outlet, amount in gotten(amounts(table, pair(inflow)))}, outflow_by(table, inflow))


class DeskTest(Case):

    def test_the_desk_tells_the_same(self):
        for one, other in some_pairs(30, 129):
            outlet = one.outlets[0]
            lines = [f"net one {one.text}", f"net other {other.text}", f"net lean {first_text(one)}", "alike one other", "weirs one", "flow one 22/7", f"least one {outlet} 1", f"most one {outlet} 1"]
            least, most = least_inflow(one, outlet, (1, 1)), most_inflow(one, outlet, (1, 1))
            self.same(answers("\n".join(lines)), ["done", "done", "done", "yes" if alike(one, other) else "no", str(fewest_weirs(table_of(one))), shares_text(flow(one, (22, 7))),
                                                  "none" if least is None else amount_text(least), "none" if most is None else amount_text(most)])


def first_text(net):
    """The text of the Net of the first half of the PARTS."""
    return first_parts(net, len(net) // 2).text


class KeptTest(Case):
    """What was handed in may change afterwards; what was told stays."""

    def test_tables_that_change_behind_what_was_told(self):
        for call in (lambda table: net_of(table), lambda table: table_after(table, [1, 1]), lambda table: mixed(table, table, [1, 2]), lambda table: weired(table, [1, 1], table),
                     lambda table: table_behind(table, "p", table), lambda table: amounts(table, [9, 1]), lambda table: outlets_of(table), lambda table: borders(table)):
            table = listed((((3, 1), (("p", (1, 1)),)), (None, (("p", (1, 2)), ("q", (1, 2))))))
            got = call(table)
            before = repr(shown(got))
            table[0][0][0] = 2
            table[0][1][0][0] = "zz"
            table[1][1][1][1][1] = 9
            table.clear()
            self.assertEqual(repr(shown(got)), before)

    def test_with_part(self):
        part = listed(("weir", "in", (3, 1), "a", "r"))
        net, board, watch = with_part(Net(), part), Board(), Watch(Net())
        board.put("x", Net())
        board.lay("x", part)
        watch.lay(part)
        part[2][0] = 5
        part[3] = "b"
        self.same([one.text for one in (net, board["x"], watch.net)], ["weir in 3 a r"] * 3)


if __name__ == "__main__":
    unittest.main()
