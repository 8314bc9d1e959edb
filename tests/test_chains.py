"""[11]: chains."""

import random
import unittest
from fractions import Fraction

from layernets.chains import behind, mixed, table_behind, weired
from layernets.errors import Known, NoOutlet
from layernets.nets import Net
from layernets.tables import is_table, table_of
from tests.support import Case, around, outflow_by, pair, some_nets, some_tables, table_borders

NET, MORE = Net.of("weir in 3 a r; divide r 1/2 s t; join a s j; weir j 5 p q"), Net.of("weir in 1 u v")
TABLE = (((3, 1), (("p", (1, 1)),)), ((7, 1), (("p", (1, 2)), ("t", (1, 2)))), (None, (("q", (1, 2)), ("t", (1, 2)))))
PLAIN, EARLY = ((None, (("b", (1, 1)),)),), (((3, 1), (("a", (1, 1)),)), (None, (("r", (1, 1)),)))
GREAT = 10 ** 12


def only(name):
    """The TABLE of one outlet alone."""
    return ((None, ((name, (1, 1)),)),)


def together(one, other):
    """What each outlet gets, by both dicts."""
    both = {outlet: one.get(outlet, 0) + other.get(outlet, 0) for outlet in (*one, *other)}
    return {outlet: amount for outlet, amount in both.items() if amount > 0}


class ExamplesTest(Case):

    def test_behind(self):
        got = behind(NET, "t", MORE)
        self.same(got.text, "weir in 3 a r; divide r 1/2 s t; join a s j; weir j 5 p q; weir t 1 u v")
        self.told(got, behind, net=NET, outlet="t", other=MORE)
        self.assertTrue(behind(NET, "t", Net()) == NET)
        self.same(table_of(NET), TABLE)

    def test_table_behind(self):
        wanted = (((3, 1), (("p", (1, 1)),)), ((5, 1), (("p", (1, 2)), ("u", (1, 2)))), ((7, 1), (("p", (1, 2)), ("v", (1, 2)))), (None, (("q", (1, 2)), ("v", (1, 2)))))
        self.told(wanted, table_behind, table=TABLE, outlet="t", other=table_of(MORE))
        self.same(table_of(behind(NET, "t", MORE)), wanted)
        self.told(only("r"), table_behind, table=EARLY, outlet="a", other=only("r"))
        self.told(EARLY, table_behind, table=EARLY, outlet="zz", other=PLAIN)

    def test_mixed_and_weired(self):
        self.told((((6, 1), (("a", (1, 2)), ("b", (1, 2)))), (None, (("b", (1, 2)), ("r", (1, 2))))), mixed, one=EARLY, other=PLAIN, share=(1, 2))
        self.told((((4, 1), (("b", (1, 1)),)), ((7, 1), (("a", (1, 1)),)), (None, (("r", (1, 1)),))), weired, one=PLAIN, limit=(4, 1), other=EARLY)
        self.told(PLAIN, mixed, one=EARLY, other=PLAIN, share=(0, 1))
        self.told(PLAIN, weired, one=EARLY, limit=(0, 1), other=PLAIN)

    def test_errors(self):
        self.refuses(NoOutlet, {"name": "j"}, behind, net=NET, outlet="j", other=MORE)
        self.refuses(Known, {"name": "j"}, behind, net=NET, outlet="t", other=Net.of("weir in 1 t j"))


class BehindTest(Case):

    def test_each_outlet(self):
        other = Net.of("divide in 1/3 u v; weir v 2 w x; join u w y")
        for outlet in NET.outlets:
            got = behind(NET, outlet, other)
            text = f"{NET.text}; divide {outlet} 1/3 u v; weir v 2 w x; join u w y"
            self.same(got.text, text)
            self.told(Net.of(text), behind, net=NET, outlet=outlet, other=other)

    def test_nets_without_parts(self):
        for outlet in NET.outlets:
            self.told(NET, behind, net=NET, outlet=outlet, other=Net())
        self.told(NET, behind, net=Net(), outlet="in", other=NET)
        self.told(Net(), behind, net=Net(), outlet="in", other=Net())
        self.refuses(NoOutlet, {"name": "t"}, behind, net=Net(), outlet="t", other=NET)

    def test_channels_that_are_called_as_parts_are(self):
        net = Net.of("weir in 2 join weir")
        self.same(behind(net, "weir", Net.of("divide in 1/2 divide a; join a divide b")).text, "weir in 2 join weir; divide weir 1/2 divide a; join a divide b")
        self.same(behind(net, "join", Net.of("weir in 2 inn a")).text, "weir in 2 join weir; weir join 2 inn a")

    def test_in_at_either_place_of_a_join_and_later(self):
        other = Net.of("weir in 1 u v; join v u w")
        self.same(behind(NET, "p", other).text, NET.text + "; weir p 1 u v; join v u w")

    def test_known(self):
        for text, name in (("weir in 1 u p", "p"), ("weir in 1 z a", "a"), ("weir in 1 u v; weir u 1 t j; weir v 1 q s", "j"), ("weir in 1 u t", "t"),
                           ("weir in 1 r u; join r u z", "r"), ("weir in 1 s q; join s q z", "q")):
            for outlet in NET.outlets:
                self.refuses(Known, {"name": name}, behind, net=NET, outlet=outlet, other=Net.of(text))
        self.refuses(Known, {"name": "a"}, behind, net=NET, outlet="p", other=NET)

    def test_no_outlet_comes_first(self):
        for name in ("in", "a", "r", "s", "j", "zz"):
            for other in (Net(), MORE, NET, Net.of("weir in 1 t j")):
                self.refuses(NoOutlet, {"name": name}, behind, net=NET, outlet=name, other=other)

    def test_what_is_handed_in_stays(self):
        other = Net.of("weir in 1 u v")
        behind(NET, "t", other)
        self.same((NET.text, other.text), ("weir in 3 a r; divide r 1/2 s t; join a s j; weir j 5 p q", "weir in 1 u v"))

    def test_the_table_of_behind_is_that_of_table_behind(self):
        others = [net for net in some_nets(60, 20, 6) if len(net) > 0]
        for net, other in zip(some_nets(60, 21, 6), others):
            # All channels of other have another first letter.
            other = Net([part[:1] + tuple("z" + item[:2] if isinstance(item, str) and item != "in" else item for item in part[1:]) for part in other.parts])
            for outlet in net.outlets:
                with self.subTest(net=net.text, outlet=outlet, other=other.text):
                    self.same(table_of(behind(net, outlet, other)), table_behind(table_of(net), outlet, table_of(other)))


class TablesTest(Case):

    def joined(self, got, wanted, *rows):
        """The TABLE got tells what wanted does of each of many INFLOWS; rows are borders of it that may be."""
        self.assertIs(is_table(got), True)
        for inflow in around(table_borders(got), *rows):
            self.assertEqual(outflow_by(got, inflow), wanted(inflow))

    def test_table_behind(self):
        chance = random.Random(22)
        for table, other in zip(some_tables(60, 23), some_tables(60, 24, ("a", "b", "p", "x", "y", "zz"))):
            for outlet in ("a", "p", "zz", chance.choice("bcq"), "none"):
                def wanted(inflow):
                    got = outflow_by(table, inflow)
                    came = got.pop(outlet, Fraction(0))
                    return together(got, outflow_by(other, came))
                with self.subTest(table=table, outlet=outlet, other=other):
                    self.joined(table_behind(table, outlet, other), wanted, table_borders(table))
        self.told(table_behind(TABLE, "t", EARLY), table_behind, table=TABLE, outlet="t", other=EARLY)

    def test_mixed(self):
        for number, (one, other) in enumerate(zip(some_tables(64, 25), some_tables(64, 26))):
            share = ((0, 1), (1, 1), (1, 2), (1, 3), (999, 1000), (2, 7))[number % 6]

            def wanted(inflow):
                part = inflow * Fraction(*share)
                return together(outflow_by(one, part), outflow_by(other, inflow - part))
            with self.subTest(one=one, other=other, share=share):
                self.joined(mixed(one, other, share), wanted, table_borders(one), table_borders(other))
                self.same(mixed(other, one, pair(1 - Fraction(*share))), mixed(one, other, share))

    def test_weired(self):
        for number, (one, other) in enumerate(zip(some_tables(64, 27), some_tables(64, 28))):
            # A limit of 0, at a border, between two, beyond all, and great.
            limits = [(0, 1), (1, 9), (7, 1), (GREAT, 1), (100, 3)] + [until for until, _ in one[:-1]]
            limit = limits[number % len(limits)]

            def wanted(inflow):
                part = min(inflow, Fraction(*limit))
                return together(outflow_by(one, part), outflow_by(other, inflow - part))
            with self.subTest(one=one, other=other, limit=limit):
                self.joined(weired(one, limit, other), wanted, table_borders(one), [limit])

    def test_shares_of_0_and_1(self):
        for one, other in zip(some_tables(16, 29), some_tables(16, 30)):
            self.told(other, mixed, one=one, other=other, share=(0, 1))
            self.told(one, mixed, one=one, other=other, share=(1, 1))
            self.told(other, weired, one=one, limit=(0, 1), other=other)
            self.told(one, mixed, one=one, other=one, share=(1, 1))

    def test_limits_at_a_border(self):
        a, b = (("a", (1, 1)),), (("b", (1, 1)),)
        self.told((((3, 1), a), (None, b)), weired, one=EARLY, limit=(3, 1), other=PLAIN)
        self.told((((3, 1), a), ((10, 3), (("r", (1, 1)),)), (None, b)), weired, one=EARLY, limit=(10, 3), other=PLAIN)
        self.told((((2, 1), a), (None, b)), weired, one=EARLY, limit=(2, 1), other=PLAIN)
        # What goes by other begins there with what one ends with.
        self.told((((5, 1), a), (None, (("r", (1, 1)),))), weired, one=only("a"), limit=(2, 1), other=EARLY)
        self.told(only("a"), weired, one=only("a"), limit=(2, 1), other=only("a"))

    def test_names_that_both_have(self):
        other = (((1, 1), (("p", (1, 3)), ("t", (2, 3)))), (None, (("q", (1, 1)),)))
        # t feeds other, in which an outlet is called t again.
        self.told((((3, 1), (("p", (1, 1)),)), ((5, 1), (("p", (2, 3)), ("t", (1, 3)))), ((7, 1), (("p", (1, 2)), ("q", (1, 2)))), (None, (("q", (1, 1)),))),
                  table_behind, table=TABLE, outlet="t", other=other)
        self.told(TABLE, table_behind, table=TABLE, outlet="t", other=only("t"))
        self.told(only("a"), mixed, one=only("a"), other=only("a"), share=(2, 7))
        self.told(EARLY, mixed, one=EARLY, other=EARLY, share=(1, 1))
        self.told((((6, 1), (("a", (1, 1)),)), (None, (("r", (1, 1)),))), mixed, one=EARLY, other=EARLY, share=(1, 2))

    def test_an_outlet_that_is_not_in_the_table(self):
        for outlet in ("x", "in", "u", "b"):
            self.told(TABLE, table_behind, table=TABLE, outlet=outlet, other=PLAIN)

    def test_behind_the_outlet_in(self):
        self.told(TABLE, table_behind, table=only("in"), outlet="in", other=TABLE)
        self.told((((3, 1), (("in", (1, 1)),)), (None, (("r", (1, 1)),))), table_behind, table=EARLY, outlet="a", other=only("in"))

    def test_outlets_without_end_and_those_that_stand_still(self):
        table = (((2, 1), (("a", (1, 1)),)), ((5, 1), (("b", (1, 1)),)), (None, (("a", (1, 2)), ("b", (1, 2)))))
        other = (((2, 1), (("x", (1, 1)),)), ((4, 1), (("y", (1, 1)),)), (None, (("z", (1, 1)),)))
        self.told((((2, 1), (("x", (1, 1)),)), ((5, 1), (("b", (1, 1)),)), ((9, 1), (("b", (1, 2)), ("y", (1, 2)))), (None, (("b", (1, 2)), ("z", (1, 2))))),
                  table_behind, table=table, outlet="a", other=other)

    def test_each_table_is_made_of_single_outlets(self):
        for table in some_tables(24, 31):
            pieces, ahead = [], Fraction(0)
            for until, shares in table:
                piece, gone = only(shares[0][0]), Fraction(*shares[0][1])
                for outlet, share in shares[1:]:
                    gone += Fraction(*share)
                    piece = mixed(only(outlet), piece, pair(Fraction(*share) / gone))
                pieces.append((until, piece))
            made = pieces[-1][1]
            for number in range(len(table) - 2, -1, -1):
                ahead = Fraction(*pieces[number - 1][0]) if number > 0 else Fraction(0)
                made = weired(pieces[number][1], pair(Fraction(*pieces[number][0]) - ahead), made)
            self.same(made, table)


if __name__ == "__main__":
    unittest.main()
