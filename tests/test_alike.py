"""[7]: Nets that are alike."""

import random
import unittest
from fractions import Fraction

from layernets.alike import against, alike, idle_weirs, is_against, same_up_to, unlike_outlets
from layernets.builds import leanest
from layernets.nets import Net, renamed
from layernets.tables import table_of
from tests.support import ODD_INFLOWS, Case, around, cuts, layers, listed, outflow, pair, some_nets, some_pairs, walk

ONE, OTHER = Net.of("weir in 3 a r; divide r 1/2 s t; join a s j"), Net.of("weir in 5 a r; divide r 1/4 s t; join a s j")
THIRD = Net.of("weir in 3 a r; divide r 1/2 t s; join s a j")
GREAT = 10 ** 12


def unlike(one, other, inflow):
    """Whether some outlet gets unlike amounts of this INFLOW, by walks."""
    return outflow(one, inflow) != outflow(other, inflow)


class ExamplesTest(Case):

    def test_alike(self):
        self.told(True, alike, one=ONE, other=THIRD)
        self.told(False, alike, one=ONE, other=OTHER)
        self.told(True, alike, one=Net.of("weir in 0 a b"), other=Net.of("weir in 0 c b"))

    def test_against(self):
        self.told(None, against, one=ONE, other=THIRD)
        self.told(True, is_against, one=ONE, other=OTHER, thing=against(ONE, OTHER))
        for thing, wanted in (((3, 1), False), ((7, 2), True), ((9, 1), False), ((10, 1), True)):
            self.told(wanted, is_against, one=ONE, other=OTHER, thing=thing)

    def test_how_far_and_which(self):
        self.told((3, 1), same_up_to, one=ONE, other=OTHER)
        self.told(None, same_up_to, one=ONE, other=THIRD)
        self.told(("j", "t"), unlike_outlets, one=ONE, other=OTHER)
        self.told((), unlike_outlets, one=ONE, other=THIRD)
        self.told(("a", "b", "in"), unlike_outlets, one=Net.of("-"), other=Net.of("weir in 2 a b"))

    def test_idle_weirs(self):
        self.told((1,), idle_weirs, net=Net.of("weir in 3 a r; weir a 3 b c; weir r 2 d e"))
        self.told((), idle_weirs, net=Net.of("weir in 3 a r; divide a 1/2 b c; weir b 1 d e"))
        self.told((), idle_weirs, net=Net.of("-"))


class PairsTest(Case):

    def are_alike(self, one, other):
        for first, second in ((one, other), (other, one)):
            with self.subTest(one=first.text, other=second.text):
                self.told(True, alike, one=first, other=second)
                self.told(None, against, one=first, other=second)
                self.told(None, same_up_to, one=first, other=second)
                self.told((), unlike_outlets, one=first, other=second)
                for inflow in around(cuts(one), cuts(other)):
                    self.assertFalse(unlike(one, other, inflow))
                    self.same(is_against(first, second, pair(inflow)), False)

    def are_unlike(self, one, other, begin, outlets):
        for first, second in ((one, other), (other, one)):
            with self.subTest(one=first.text, other=second.text):
                self.told(False, alike, one=first, other=second)
                self.told(begin, same_up_to, one=first, other=second)
                self.told(outlets, unlike_outlets, one=first, other=second)
                found = self.steady(against, one=first, other=second)
                self.told(True, is_against, one=first, other=second, thing=found)
                self.assertTrue(unlike(one, other, Fraction(*found)))
                for inflow in around(cuts(one), cuts(other), [begin]):
                    self.same(is_against(first, second, pair(inflow)), unlike(one, other, inflow))
                    if inflow <= Fraction(*begin):
                        self.assertFalse(unlike(one, other, inflow))
                self.told(False, is_against, one=first, other=second, thing=begin)
                self.told(True, is_against, one=first, other=second, thing=pair(Fraction(*begin) + Fraction(1, 10 ** 15)))

    def test_alike_though_built_otherwise(self):
        for one, other in (
            ("-", "-"),
            ("weir in 3 p q", "weir in 1 a b; weir b 2 c q; join a c p"),
            ("weir in 3 p q", "weir in 5 a b; weir a 3 p c; join b c q"),
            ("weir in 0 a p", "divide in 1/2 b c; join b c p"),
            ("weir in 3 a b; join a b p", "weir in 9 c d; join c d p"),
            ("divide in 1/3 p q", "divide in 2/3 q p"),
            ("divide in 1/2 p q", "divide in 1/4 a b; divide b 1/3 c q; join a c p"),
            ("divide in 1/2 p q", "divide in 1/2 a b; weir a 1 c d; weir b 1 e f; join c f p; join d e q"),
            ("weir in 3 p q; weir q 2 y z", "weir in 5 a z; weir a 3 p y"),
            ("divide in 1/2 a b; weir a 1 p q; weir b 1 x y", "weir in 2 a b; divide a 1/2 p x; divide b 1/2 q y"),
            # What never gets anything is no matter, whatever it is called.
            ("weir in 3 p q; weir p 4 a b", "weir in 3 a q"),
            ("weir in 3 p q; weir p 3 a b; divide q 1 c d", "weir in 3 a c"),
            ("divide in 1 p q", "divide in 0 a p"),
        ):
            self.are_alike(Net.of(one), Net.of(other))

    def test_unlike(self):
        for one, other, begin, outlets in (
            ("weir in 3 p q", "weir in 4 p q", (3, 1), ("p", "q")),
            ("weir in 3 p q", "weir in 3 q p", (0, 1), ("p", "q")),
            ("weir in 3 p q", "weir in 3 p r", (3, 1), ("q", "r")),
            ("divide in 1/2 p q", "divide in 499/1000 p q", (0, 1), ("p", "q")),
            ("-", "weir in 0 p q", (0, 1), ("in", "q")),
            ("weir in 1000000000000 p q", "weir in 999999999999 p q", (GREAT - 1, 1), ("p", "q")),
            ("weir in 1000000000000 p q; divide q 1/2 r s", "weir in 1000000000000 p q; divide q 1/3 r s", (GREAT, 1), ("r", "s")),
            ("weir in 1/1000000000000 p q", "weir in 1/999999999999 p q", (1, GREAT), ("p", "q")),
            # One OUTLET more, for a while in the midst only.
            ("weir in 3 a b; weir b 2 c d; join a d p; divide c 1/2 q r", "weir in 3 a b; weir b 2 c d; join a d p; divide c 0 x q", (3, 1), ("q", "r")),
            # By both p gets as much in the end, but not as early.
            ("weir in 2 a b; weir b 3 q c; join a c p", "weir in 3 q p", (0, 1), ("p", "q")),
            ("weir in 2 a b; weir b 3 q c; join a c p", "weir in 2 a b; weir b 4 q c; join a c p", (5, 1), ("p", "q")),
            ("weir in 3 p q; weir q 5 r s; weir s 9 t u", "weir in 3 p q; weir q 5 r s; weir s 10 t u", (17, 1), ("t", "u")),
        ):
            self.are_unlike(Net.of(one), Net.of(other), begin, outlets)

    def test_many_pairs(self):
        for one, other in some_pairs(200, 9):
            wanted = layers(one) == layers(other)
            with self.subTest(one=one.text, other=other.text):
                self.same(alike(one, other), wanted)
                places = around(cuts(one), cuts(other))
                apart = [inflow for inflow in places if unlike(one, other, inflow)]
                self.assertEqual(apart == [], wanted)
                begin, found = same_up_to(one, other), against(one, other)
                self.assertEqual((begin is None, found is None), (wanted, wanted))
                for inflow in places:
                    self.same(is_against(one, other, pair(inflow)), inflow in apart)
                names = {outlet for inflow in apart for outlet in (*one.outlets, *other.outlets)
                         if outflow(one, inflow).get(outlet) != outflow(other, inflow).get(outlet)}
                self.same(unlike_outlets(one, other), tuple(sorted(names)))
                if not wanted:
                    self.assertTrue(unlike(one, other, Fraction(*found)))
                    first = Fraction(*begin)
                    self.assertFalse(any(inflow <= first for inflow in apart))
                    self.assertFalse(unlike(one, other, first))
                    self.assertTrue(unlike(one, other, first + Fraction(1, 10 ** 12)))

    def test_many_nets_that_are_alike(self):
        chance = random.Random(10)
        for net in some_nets(60, 11):
            self.assertIs(alike(net, leanest(net)), True)
            inner = [channel for channel in net.channels if channel not in net.outlets and channel != "in"]
            if inner:
                other = renamed(net, chance.choice(inner), "inner")
                self.assertIs(alike(net, other), True)
                self.assertIs(against(other, net), None)

    def test_two_borders_apart_by_little(self):
        net = Net.of("weir in 3 a b; weir b 1/1000 c d; join a d p")
        other = Net.of("weir in 3 a b; weir b 1/1001 c d; join a d p")
        self.are_unlike(net, other, pair(3 + Fraction(1, 1001)), ("c", "p"))
        self.assertEqual([until for until, _ in table_of(net)], [(3, 1), (3001, 1000), None])


class IsAgainstTest(Case):

    def test_no_inflow(self):
        for thing in ODD_INFLOWS:
            with self.subTest(thing=thing):
                self.told(False, is_against, one=Net.of("weir in 3 p q"), other=Net.of("weir in 3 q p"), thing=thing)
        self.told(False, is_against, one=ONE, other=OTHER, thing=[10, 1])
        self.told(False, is_against, one=ONE, other=OTHER, thing=(20, 2))
        self.told(False, is_against, one=ONE, other=OTHER, thing=(-10, 1))
        self.told(False, is_against, one=ONE, other=OTHER, thing=(0, 1))

    def test_nets_that_are_alike(self):
        for thing in (*ODD_INFLOWS, (1, 1), (9, 2), (GREAT, 1)):
            self.told(False, is_against, one=ONE, other=THIRD, thing=thing)

    def test_far_out(self):
        self.told(True, is_against, one=ONE, other=OTHER, thing=(10 ** 200, 3))
        self.told(True, is_against, one=ONE, other=OTHER, thing=(9 * 10 ** 200 + 1, 10 ** 200))
        self.told(True, is_against, one=ONE, other=OTHER, thing=(9 * 10 ** 200 - 1, 10 ** 200))

    def test_outlets_of_one_net_alone(self):
        one, other = Net.of("weir in 3 p q; weir q 2 x y"), Net.of("weir in 3 p q")
        for thing, wanted in (((3, 1), False), ((4, 1), True)):
            self.told(wanted, is_against, one=one, other=other, thing=thing)
            self.told(wanted, is_against, one=other, other=one, thing=thing)


class IdleWeirsTest(Case):

    def idle(self, text, *places):
        with self.subTest(text):
            self.told(places, idle_weirs, net=Net.of(text))

    def test_just_filled(self):
        self.idle("weir in 3 a r; weir a 3 b c", 1)
        self.idle("weir in 3 a r; weir a 2999/1000 b c")
        self.idle("weir in 3 a r; weir a 4 b c", 1)
        self.idle("weir in 3 a r; divide a 1/2 b c; weir b 3/2 d e; weir c 1 f g", 2)

    def test_nothing_reaches_it(self):
        self.idle("weir in 0 a r; weir a 3 b c; weir b 0 d e", 1, 2)
        self.idle("divide in 0 a r; weir a 0 b c; weir r 0 d e", 1)
        self.idle("divide in 1 a r; weir r 1 b c; weir b 1 d e; weir c 1 f g", 1, 2, 3)

    def test_something_goes_past(self):
        self.idle("weir in 3 a r")
        self.idle("weir in 1000000000000 a r")
        self.idle("weir in 0 a r")
        self.idle("weir in 3 a r; weir r 1000 b c; weir c 1000 d e")

    def test_dividers_and_joins_are_no_weirs(self):
        self.idle("divide in 1 a b; join a b c")
        self.idle("divide in 1 a b; divide b 1 c d; weir d 1 e f; join a c g", 2)

    def test_past_it_later_only(self):
        self.idle("weir in 2 a b; weir b 3 x d; join a d c; weir c 2 p q")
        self.idle("weir in 2 a b; weir b 3 x d; weir x 3 y z; join a z c; weir c 2 p q", 2, 4)

    def test_many_nets(self):
        for net in some_nets(130, 12):
            far = walk(net.parts, max([Fraction(0), *cuts(net)]) + 1)
            wanted = tuple(place for place, part in enumerate(net.parts) if part[0] == "weir" and far[part[4]] == 0)
            with self.subTest(net.text):
                self.told(wanted, idle_weirs, net=net)

    def test_a_thing_in_a_list(self):
        self.same(is_against(ONE, OTHER, listed((10, 1))), False)


if __name__ == "__main__":
    unittest.main()
