"""[6]: TABLES."""

import unittest
from fractions import Fraction
from itertools import product

from layernets.errors import NoPlace
from layernets.nets import Net
from layernets.tables import amount_of, amounts, borders, is_shares, is_table, outlets_of, place_of_weir, share_at, table_of
from layernets.walks import flow
from tests.support import ODD_AMOUNTS, ODD_THINGS, Case, around, cuts, deep, layers, listed, outflow, outflow_by, pair, some_nets, some_tables, \
    table_borders, walk

NET = Net((("weir", "in", (3, 1), "a", "r"), ("divide", "r", (1, 2), "s", "t"), ("join", "a", "s", "j"), ("weir", "j", (5, 1), "p", "u"),
           ("join", "u", "t", "q")))
P, Q, HALVES = (("p", (1, 1)),), (("q", (1, 1)),), (("p", (1, 2)), ("q", (1, 2)))
TABLE = (((3, 1), P), ((7, 1), HALVES), (None, Q))
GREAT = 10 ** 12


class ExamplesTest(Case):

    def test_table_of(self):
        self.told(TABLE, table_of, net=NET)
        self.told(((None, (("in", (1, 1)),)),), table_of, net=Net(()))
        self.told(((None, (("q", (1, 1)),)),), table_of, net=Net((("weir", "in", (0, 1), "p", "q"),)))

    def test_what_a_table_tells(self):
        self.told([(3, 1), (7, 1)], borders, table=TABLE)
        self.told(("p", "q"), outlets_of, table=TABLE)
        self.told((("p", (5, 1)), ("q", (5, 1))), amounts, table=TABLE, inflow=(10, 1))
        self.told((("p", (13, 4)), ("q", (1, 4))), amounts, table=TABLE, inflow=(7, 2))
        self.told((5, 2), amount_of, table=TABLE, outlet="q", inflow=(15, 2))
        self.told((0, 1), amount_of, table=TABLE, outlet="x", inflow=(9, 1))

    def test_places(self):
        self.told((("p", (1, 1)),), share_at, table=TABLE, place=(0, 1))
        self.told((("p", (1, 2)), ("q", (1, 2))), share_at, table=TABLE, place=(3, 1))
        self.told((("q", (1, 1)),), share_at, table=TABLE, place=(99, 1))
        self.told((3, 1), place_of_weir, net=NET, place=0)
        self.told((7, 1), place_of_weir, net=NET, place=3)
        self.refuses(NoPlace, {"number": 1}, place_of_weir, net=NET, place=1)

    def test_things(self):
        for thing, wanted in ((TABLE, True), (TABLE[1:], True), (TABLE[:1], False), (TABLE[2:], True)):
            self.told(wanted, is_table, thing=thing)
        self.told(False, is_shares, thing=(("p", (1, 2)), ("q", (1, 3))))


class IsSharesTest(Case):

    def test_shares(self):
        for thing in (P, Q, HALVES, (("in", (1, 1)),), (("a", (1, 3)), ("aa", (1, 3)), ("b", (1, 3))), (("abcdefgh", (1, 1000)), ("z", (999, 1000))),
                      (("a", (1, GREAT)), ("b", (GREAT - 1, GREAT))), (("a", (1, 2)), ("b", (1, 3)), ("c", (1, 6))),
                      (("x", (1, 6)), ("y", (1, 10)), ("z", (11, 15)))):
            with self.subTest(thing):
                self.told(True, is_shares, thing=thing)
                self.assertIs(is_shares(list(thing)), False)
                self.assertIs(is_shares(tuple(list(row) for row in thing)), False)
                self.assertIs(is_shares(tuple((name, list(share)) for name, share in thing)), False)

    def test_very_many(self):
        names = sorted("".join(row) for row in product("abcdefghij", repeat=4))
        self.assertIs(is_shares(tuple((name, (1, 10 ** 4)) for name in names)), True)
        self.assertIs(is_shares(tuple((name, (1, 10 ** 4 - 1)) for name in names)), False)
        self.assertIs(is_shares(tuple((name, (1, 10 ** 4)) for name in names[1:])), False)
        self.assertIs(is_shares(tuple((name, (1, 3 + number)) for number, name in enumerate(names))), False)

    def test_sums(self):
        for thing in ((("p", (1, 2)),), (("p", (1, 2)), ("q", (2, 3))), (("p", (1, 1)), ("q", (1, 1))), (("p", (999, 1000)),), (("p", (1, 1)), ("q", (1, GREAT))),
                      (("p", (1, 2)), ("q", (1, 4)), ("r", (1, 8))), (("p", (3, 2)),), (("p", (2, 1)),), ()):
            with self.subTest(thing):
                self.told(False, is_shares, thing=thing)

    def test_orders(self):
        for thing in ((("q", (1, 2)), ("p", (1, 2))), (("p", (1, 2)), ("p", (1, 2))), (("p", (1, 3)), ("p", (2, 3))), (("aa", (1, 2)), ("a", (1, 2))),
                      (("a", (1, 3)), ("c", (1, 3)), ("b", (1, 3))), (("b", (1, 3)), ("a", (1, 3)), ("c", (1, 3)))):
            with self.subTest(thing):
                self.told(False, is_shares, thing=thing)

    def test_no_share(self):
        for share in (*ODD_AMOUNTS, *ODD_THINGS, (0, 1), (2, 2), (2, 1)):
            with self.subTest(share=share):
                self.assertIs(is_shares((("p", share),)), False)
                self.assertIs(is_shares((("p", (1, 1)), ("q", share))), False)
                self.assertIs(is_shares((("p", share), ("q", (1, 2)))), False)
        self.assertIs(is_shares((("p", (3, 2)), ("q", (-1, 2)))), False)
        self.assertIs(is_shares((("p", (2, 4)), ("q", (2, 4)))), False)
        self.assertIs(is_shares((("p", (1, 1)), ("q", (0, 1)))), False)

    def test_no_name(self):
        for name in (*ODD_THINGS, "P", "", "abcdefghi", "p ", "p1", "\u00e9", ("p",), b"p"):
            if name != "in":
                with self.subTest(name=name):
                    self.assertIs(is_shares(((name, (1, 1)),)), False)
                    self.assertIs(is_shares(((name, (1, 2)), ("q", (1, 2)))), False)

    def test_odd_things(self):
        for thing in (*ODD_THINGS, *ODD_AMOUNTS, ("p", (1, 1)), (("p", (1, 1), 1),), (("p",),), ("p",), (("p", (1, 1)), ()), (("p", (1, 1)), None), "p 1",
                      (HALVES,), ((), ()), deep(11)):
            with self.subTest(thing=thing):
                self.told(False, is_shares, thing=thing)


class IsTableTest(Case):

    def no(self, *things):
        for thing in things:
            with self.subTest(thing=thing):
                self.told(False, is_table, thing=thing)

    def test_tables(self):
        for thing in (((None, P),), (((1, GREAT), P), (None, Q)), (((10 ** 40, 1), P), (None, Q)), (((1, 3), P), ((1, 2), Q), (None, P)),
                      (((2, 1), P), ((10, 1), Q), (None, HALVES)), (((7, 2), P), ((11, 3), Q), (None, P)), ((None, (("in", (1, 1)),)),),
                      *some_tables(24, 1)):
            with self.subTest(thing):
                self.told(True, is_table, thing=thing)

    def test_many_layers(self):
        thing = tuple(((number, 7) if number % 7 else (number // 7, 1), P if number % 2 else Q) for number in range(1, 600)) + ((None, Q),)
        self.assertIs(is_table(thing), True)
        self.assertIs(is_table(thing[:-2] + thing[-1:]), False)
        self.assertIs(is_table(thing[:300] + thing[302:]), True)
        self.assertIs(is_table(thing[:300] + thing[301:]), False)

    def test_lists(self):
        self.no(list(TABLE), listed(TABLE), (list(TABLE[0]), *TABLE[1:]), (((3, 1), list(P)), *TABLE[1:]), (([3, 1], P), *TABLE[1:]),
                (((3, 1), (["p", (1, 1)],)), *TABLE[1:]), (*TABLE[:2], [None, Q]), (*TABLE[:2], (None, [["q", (1, 1)]])), (*TABLE[:2], (None, (("q", [1, 1]),))))

    def test_borders(self):
        # 0, not rising, the same again, not in lowest terms, below 0, of other kinds.
        self.no((((0, 1), P), (None, Q)), (((3, 1), P), ((3, 1), Q), (None, P)), (((3, 1), P), ((2, 1), Q), (None, P)), (((10, 1), P), ((9, 1), Q), (None, P)),
                (((1, 2), P), ((1, 3), Q), (None, P)), (((11, 3), P), ((7, 2), Q), (None, P)), (((2, 1), P), ((5, 1), Q), ((4, 1), P), (None, Q)))
        for until in (*ODD_AMOUNTS, *ODD_THINGS, (-3, 1), (-1, 2), (6, 2)):
            self.no(((until, P), (None, Q)), (((1, GREAT), HALVES), (until, P), (None, Q)))

    def test_none(self):
        self.no(((None, P), (None, Q)), ((None, P), ((3, 1), Q)), (((3, 1), P),), (((3, 1), P), ((4, 1), Q)), (((1, 1), P), (None, Q), ((2, 1), P), (None, Q)),
                (((1, 1), P), (None, Q), ((2, 1), P)), ((False, P),), ((0, P),), (((), P),))

    def test_neighbours(self):
        self.no((((3, 1), P), (None, P)), (((3, 1), P), ((4, 1), P), (None, Q)), (((3, 1), Q), ((4, 1), HALVES), (None, HALVES)))
        self.told(True, is_table, thing=(((3, 1), P), ((4, 1), Q), (None, P)))

    def test_shares(self):
        for shares in ((), (("p", (1, 2)),), (("q", (1, 2)), ("p", (1, 2))), (("p", (0, 1)), ("q", (1, 1))), (("p", (1, 1)), ("q", (0, 1))), (("p", (2, 2)),),
                       (("p", (True, 1)),), (("p", (1, True)),), (("P", (1, 1)),), ("p", (1, 1)), None, "p 1", (P,), deep(10), (("p", (1, 3)), ("p", (2, 3)))):
            self.no(((None, shares),), (((3, 1), shares), (None, Q)), (((3, 1), Q), (None, shares)))

    def test_odd_things(self):
        self.no(*ODD_THINGS, *ODD_AMOUNTS, P, (None, P), ((None,),), ((None, P, P),), ((None, P), ()), ((None, P), None), (P,), (TABLE,), ((P, None),),
                (((3, 1), P), (None,)), deep(12), listed(deep(12)), NET.text)


class TableOfTest(Case):

    def of(self, text, *table):
        with self.subTest(text):
            self.told(table, table_of, net=Net.of(text))

    def test_single_parts(self):
        self.of("-", (None, (("in", (1, 1)),)))
        self.of("weir in 3 p q", ((3, 1), P), (None, Q))
        self.of("weir in 3 q p", ((3, 1), Q), (None, P))
        self.of("weir in 1/1000000000000 p q", ((1, GREAT), P), (None, Q))
        self.of("weir in 0 p q", (None, Q))
        self.of("divide in 1/2 p q", (None, HALVES))
        self.of("divide in 1/3 q p", (None, (("p", (2, 3)), ("q", (1, 3)))))
        self.of("divide in 0 p q", (None, Q))
        self.of("divide in 1 p q", (None, P))

    def test_joins(self):
        self.of("weir in 3 a b; join a b p", (None, P))
        self.of("weir in 3 a b; join b a p", (None, P))
        self.of("weir in 3 a b; divide b 1/2 c q; join a c p", ((3, 1), P), (None, HALVES))
        self.of("weir in 2 a b; weir b 3 q c; join a c p", ((2, 1), P), ((5, 1), Q), (None, P))
        self.of("weir in 2 a b; weir b 3 c d; join a d e; join e c p", (None, P))

    def test_a_border_that_vanishes(self):
        self.of("divide in 1/2 a b; weir a 1 c d; weir b 1 e f; join c f p; join d e q", (None, HALVES))
        self.of("divide in 1/2 a b; weir a 1 c d; weir b 3 e f; join c e p; join d f q", ((2, 1), P), ((6, 1), HALVES), (None, Q))

    def test_limits_that_come_together_at_one_place(self):
        self.of("divide in 1/2 a b; weir a 1 c d; weir b 1 e f; join c e p; join d f q", ((2, 1), P), (None, Q))

    def test_limits_that_never_come(self):
        self.of("weir in 3 p q; weir p 4 a b", ((3, 1), (("a", (1, 1)),)), (None, Q))
        self.of("weir in 3 p q; weir p 3 a b", ((3, 1), (("a", (1, 1)),)), (None, Q))
        self.of("weir in 0 p q; weir p 1 a b", (None, Q))
        self.of("weir in 0 p q; weir p 0 a b", (None, Q))

    def test_a_channel_that_stands_still_and_goes_on(self):
        # c gets the first 2, nothing up to 5, then all: its limit of 2 is there at 2, that of 3 at 6.
        text = "weir in 2 a b; weir b 3 x d; join a d c; weir c "
        self.of(text + "2 p q", ((2, 1), P), ((5, 1), (("x", (1, 1)),)), (None, Q))
        self.of(text + "3 p q", ((2, 1), P), ((5, 1), (("x", (1, 1)),)), ((6, 1), P), (None, Q))

    def test_great_numbers(self):
        self.of(f"weir in {GREAT} a b; divide b 1/1000 c q; join a c p; weir p {GREAT + 1} x y",
                ((GREAT, 1), (("x", (1, 1)),)), ((GREAT + 1000, 1), (("q", (999, 1000)), ("x", (1, 1000)))), (None, (("q", (999, 1000)), ("y", (1, 1000)))))

    def test_many_nets(self):
        for net in some_nets(260, 6):
            with self.subTest(net.text):
                table = table_of(net)
                self.same(table, layers(net))
                self.assertIs(is_table(table), True)
                self.assertLessEqual(len(table) - 1, net.weirs)
                self.assertTrue(all(one[1] != other[1] for one, other in zip(table, table[1:])))

    def test_for_all_inflows(self):
        for net in some_nets(130, 7):
            table, got = table_of(net), set()
            for inflow in around(cuts(net), table_borders(table)):
                with self.subTest(text=net.text, inflow=inflow):
                    wanted = outflow(net, inflow)
                    self.assertEqual(outflow_by(table, inflow), wanted)
                    told = dict(amounts(table, pair(inflow)))
                    self.assertEqual({outlet: Fraction(*amount) for outlet, amount in told.items() if amount != (0, 1)}, wanted)
                    for outlet, amount in flow(net, pair(inflow)):
                        self.same(amount_of(table, outlet, pair(inflow)), amount)
                    got.update(wanted)
            # OUTLETS that never get anything are not in it.
            self.same(outlets_of(table), tuple(sorted(got)))


class TableTest(Case):

    def test_borders_are_a_new_list(self):
        table = tuple(TABLE)
        got = borders(table)
        got.append((9, 1))
        got[0] = None
        self.same(borders(table), [(3, 1), (7, 1)])
        self.same(table, TABLE)
        self.same(borders(((None, P),)), [])
        self.assertIsNot(borders(table), borders(table))

    def test_nothing_of_a_list_is_shared(self):
        table = listed(TABLE)
        first, share = borders(table), share_at(table, (0, 1))
        table[0][0][0] = 99
        table[0][1][0][1][0] = 99
        self.same((first, share), ([(3, 1), (7, 1)], P))

    def test_outlets(self):
        self.told(("p",), outlets_of, table=((None, P),))
        self.told(("a", "b", "p", "q"), outlets_of, table=(((1, 1), (("b", (1, 2)), ("q", (1, 2)))), ((2, 1), P), (None, (("a", (1, 2)), ("b", (1, 2))))))

    def test_a_name_that_is_not_in_the_table(self):
        for inflow in ((0, 1), (3, 1), (GREAT, 7)):
            for outlet in ("x", "in", "pp", "abcdefgh"):
                self.told((0, 1), amount_of, table=TABLE, outlet=outlet, inflow=inflow)

    def test_an_outlet_in_some_layers(self):
        table = (((2, 1), P), ((3, 1), Q), ((5, 1), HALVES), (None, Q))
        for inflow, p in (((0, 1), (0, 1)), ((1, 1), (1, 1)), ((2, 1), (2, 1)), ((5, 2), (2, 1)), ((3, 1), (2, 1)), ((4, 1), (5, 2)), ((5, 1), (3, 1)), ((8, 1), (3, 1)),
                          ((10 ** 30, 1), (3, 1))):
            self.told(p, amount_of, table=table, outlet="p", inflow=inflow)
            self.told((("p", p), ("q", pair(Fraction(*inflow) - Fraction(*p)))), amounts, table=table, inflow=inflow)

    def test_share_at_borders_and_beside(self):
        table = (((2, 1), P), ((10, 3), Q), ((7, 2), HALVES), (None, Q))
        for place, shares in (((0, 1), P), ((1999, 1000), P), ((2, 1), Q), ((2001, 1000), Q), ((33, 10), Q), ((10, 3), HALVES), ((17, 5), HALVES), ((7, 2), Q),
                              ((4, 1), Q), ((10 ** 30, 1), Q)):
            self.told(shares, share_at, table=table, place=place)
        self.told(P, share_at, table=((None, P),), place=(0, 1))

    def test_many_tables(self):
        for table in some_tables(40, 2):
            self.same(borders(table), [until for until, _ in table[:-1]])
            for inflow in around(table_borders(table)):
                with self.subTest(table=table, inflow=inflow):
                    wanted = outflow_by(table, inflow)
                    self.same(amounts(table, pair(inflow)), tuple((outlet, pair(wanted.get(outlet, 0))) for outlet in outlets_of(table)))
                    step = outflow_by(table, inflow + Fraction(1, 10 ** 12))
                    at = {outlet: (step[outlet] - wanted.get(outlet, 0)) * 10 ** 12 for outlet in step}
                    self.same(share_at(table, pair(inflow)), tuple((outlet, pair(at[outlet])) for outlet in sorted(at) if at[outlet] > 0))


class PlaceOfWeirTest(Case):

    def test_places(self):
        net = Net.of("weir in 3 a r; divide r 1/2 s t; join a s j; weir j 5 p q; weir t 0 x y; weir x 1 u v; weir p 5 k l; weir k 6 m n; weir q 1/3 z w")
        for place, wanted in ((0, (3, 1)), (3, (7, 1)), (4, (0, 1)), (5, None), (6, (7, 1)), (7, None), (8, (23, 3))):
            self.told(wanted, place_of_weir, net=net, place=place)

    def test_a_limit_of_0(self):
        self.told((0, 1), place_of_weir, net=Net.of("weir in 0 a b"), place=0)
        # Nothing ever comes to a, but nothing is enough.
        self.told((0, 1), place_of_weir, net=Net.of("weir in 0 a b; weir a 0 c d"), place=1)
        self.told((0, 1), place_of_weir, net=Net.of("weir in 2 a b; weir b 0 c d"), place=1)

    def test_a_channel_that_stands_still(self):
        text = "weir in 2 a b; weir b 3 x d; join a d c; weir c "
        self.told((2, 1), place_of_weir, net=Net.of(text + "2 p q"), place=3)
        self.told((16, 3), place_of_weir, net=Net.of(text + "7/3 p q"), place=3)
        self.told((3, 1), place_of_weir, net=Net.of("weir in 2 a b; weir b 1 c d"), place=1)

    def test_no_place(self):
        for net, places in ((NET, (-1, -2, -3, -5, -6, 1, 2, 4, 5, 6, 10 ** 30, -10 ** 30)), (Net(), (-1, 0, 1)), (Net.of("divide in 1/2 a b"), (0, -1, 1))):
            for place in places:
                self.refuses(NoPlace, {"number": place}, place_of_weir, net=net, place=place)

    def test_many_nets(self):
        for net in some_nets(130, 8):
            for place, part in enumerate(net.parts):
                if part[0] != "weir":
                    self.refused(NoPlace, {"number": place}, place_of_weir, net, place)
                    continue
                with self.subTest(text=net.text, place=place):
                    limit = Fraction(*part[2])
                    # Between two cuts a channel gets so much of each drop: the limit comes at one of them, or never.
                    reached = [cut for cut in [Fraction(0), *cuts(net)] if walk(net.parts, cut)[part[1]] >= limit]
                    self.same(place_of_weir(net, place), pair(reached[0]) if reached else None)


if __name__ == "__main__":
    unittest.main()
