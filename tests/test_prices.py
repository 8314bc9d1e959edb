"""[17]: prices."""

import random
import unittest
from fractions import Fraction

from layernets.errors import NoOutlet
from layernets.nets import Net
from layernets.prices import inflow_worth, is_prices, is_worth_against, never_worth_less, worth, worth_against
from tests.support import ODD_INFLOWS, ODD_THINGS, Case, around, cuts, deep, listed, pair, rates, some_nets, some_pairs, walk

PARTS = (("weir", "in", (3, 1), "a", "r"), ("divide", "r", (1, 2), "s", "t"), ("join", "a", "s", "j"))
NET = Net((*PARTS, ("weir", "j", (5, 1), "p", "u"), ("join", "u", "t", "q")))
EARLY = Net((("weir", "in", (4, 1), "p", "q"),))
PRICES = (("p", 2), ("q", 5))
TINY = Fraction(1, 10 ** 15)


def worth_by_walks(net, prices, inflow):
    """What an INFLOW is worth, added up outlet by outlet."""
    amounts = walk(net.parts, inflow)
    return sum(amounts[outlet] * dict(prices)[outlet] for outlet in net.outlets)


def drop_worth(net, prices):
    """What one drop more is worth beyond all borders."""
    now = rates(net.parts, max(cuts(net), default=0))
    return sum(now[outlet] * dict(prices)[outlet] for outlet in net.outlets)


def never_less_by_walks(one, other, prices):
    """Whether no INFLOW is worth less by one: at all borders, and by one drop more beyond them."""
    places = [Fraction(0), *cuts(one), *cuts(other)]
    if any(worth_by_walks(one, prices, place) < worth_by_walks(other, prices, place) for place in places):
        return False
    return drop_worth(one, prices) >= drop_worth(other, prices)


def some_prices(chance, *nets):
    """PRICES of all OUTLETS of these Nets, and of some more NAMEs."""
    names = {outlet for net in nets for outlet in net.outlets} | set(chance.sample(["zz", "in", "a", "nobody"], 2))
    return tuple((name, chance.choice((0, 0, 1, 1, 2, 3, 7, 10 ** 30))) for name in sorted(names))


class ExamplesTest(Case):

    def test_worth(self):
        for prices, inflow, wanted in ((PRICES, (10, 1), (35, 1)), (PRICES, (4, 1), (19, 2)), (PRICES, (0, 1), (0, 1)), ((("p", 0), ("q", 0)), (9, 1), (0, 1))):
            self.told(wanted, worth, net=NET, prices=prices, inflow=inflow)

    def test_against(self):
        self.told(False, never_worth_less, one=NET, other=EARLY, prices=PRICES)
        self.told(False, never_worth_less, one=EARLY, other=NET, prices=PRICES)
        place = self.steady(worth_against, one=NET, other=EARLY, prices=PRICES)
        self.told(True, is_worth_against, one=NET, other=EARLY, prices=PRICES, thing=place)
        self.told(True, is_worth_against, one=EARLY, other=NET, prices=PRICES, thing=(4, 1))
        self.told(False, is_worth_against, one=EARLY, other=NET, prices=PRICES, thing=(3, 1))
        self.told(None, worth_against, one=NET, other=NET, prices=PRICES)

    def test_inflow_worth(self):
        for net, prices, amount, wanted in ((NET, PRICES, (35, 1), (10, 1)), (NET, PRICES, (6, 1), (3, 1)), (EARLY, (("p", 1), ("q", 0)), (5, 1), None), (EARLY, PRICES, (0, 1), (0, 1))):
            self.told(wanted, inflow_worth, net=net, prices=prices, amount=amount)

    def test_is_prices(self):
        for thing, wanted in ((PRICES, True), ((("q", 5), ("p", 2)), False), ((("p", -1),), False), ((), True)):
            self.told(wanted, is_prices, thing=thing)

    def test_no_outlet(self):
        self.refuses(NoOutlet, {"name": "q"}, worth, net=NET, prices=(("p", 2),), inflow=(1, 1))


class IsPricesTest(Case):

    def test_prices(self):
        for thing in ((("p", 0),), (("p", 10 ** 60),), (("in", 1),), (("a", 1), ("aa", 0), ("ab", 0), ("b", 9)), tuple((name, 1) for name in "abcdefghijklmnopqrstuvwxyz")):
            self.told(True, is_prices, thing=thing)

    def test_lists(self):
        for thing in ([], [["p", 2]], [("p", 2)], (["p", 2],), (("p", 2), ["q", 5])):
            self.told(False, is_prices, thing=thing)

    def test_orders(self):
        for thing in ((("q", 5), ("p", 2)), (("p", 2), ("p", 2)), (("p", 2), ("p", 5)), (("p", 5), ("p", 2)), (("a", 1), ("c", 1), ("b", 1)), (("aa", 1), ("a", 1))):
            self.told(False, is_prices, thing=thing)

    def test_no_price(self):
        for price in (-1, -10 ** 30, True, False, None, "1", "", (1, 1), (3, 2), (), [1], [], ("p", 1)):
            self.told(False, is_prices, thing=(("p", price),))
            self.told(False, is_prices, thing=(("a", 1), ("p", price), ("q", 2)))

    def test_no_name(self):
        for name in ("", "P", "abcdefghi", "a1", "a ", "a b", "\u00e9", 1, None, True, ("p",), ("p", 1), ["p"], (), deep(10)):
            self.told(False, is_prices, thing=((name, 1),))

    def test_lengths(self):
        for thing in (("p", 2), (("p",),), (("p", 2, 3),), (("p", 2, ()),), ((),), ("p",), "p", (("p", 2), "q"), ((("p", 2),),)):
            self.told(False, is_prices, thing=thing)

    def test_odd_things(self):
        for thing in ODD_INFLOWS:
            self.told(thing == (), is_prices, thing=thing)
            self.told(False, is_prices, thing=(thing,))
            self.told(False, is_prices, thing=(("a", 1), thing))

    def test_very_many(self):
        names = sorted(one + other + third for one in "abcdefghij" for other in "abcdefghij" for third in "abcdefghij")
        self.told(True, is_prices, thing=tuple((name, 1) for name in names))
        self.told(False, is_prices, thing=tuple((name, 1) for name in names[::-1]))


class WorthTest(Case):

    def test_many_inflows(self):
        chance = random.Random(81)
        for net in some_nets(70, 82):
            prices = some_prices(chance, net)
            for inflow in around(cuts(net)):
                self.same(worth(net, prices, pair(inflow)), pair(worth_by_walks(net, prices, inflow)))

    def test_names_that_are_no_outlet(self):
        self.told((35, 1), worth, net=NET, prices=(("a", 100), ("in", 7), ("p", 2), ("q", 5), ("s", 9), ("zz", 1)), inflow=(10, 1))
        self.told((4, 1), worth, net=Net(), prices=(("a", 100), ("in", 1)), inflow=(4, 1))

    def test_great_and_fine(self):
        net = Net.of("divide in 1/999 p q")
        self.told(((10 ** 42 + 998) // 999, 1), worth, net=net, prices=(("p", 10 ** 42), ("q", 1)), inflow=(1, 1))
        self.told((10 ** 30, 1), worth, net=Net(), prices=(("in", 10 ** 18),), inflow=(10 ** 12, 1))
        self.told((1, 1), worth, net=Net(), prices=(("in", 10 ** 12),), inflow=(1, 10 ** 12))

    def test_outlets_with_nothing(self):
        self.told((3, 1), worth, net=Net.of("weir in 0 p q"), prices=(("p", 100), ("q", 1)), inflow=(3, 1))


class NoOutletTest(Case):

    def refuses_all(self, name, one, other, prices, alone=True):
        for thing in ((1, 1), (0, 1), None, "x", (2, 4), [1, 1], True):
            self.refuses(NoOutlet, {"name": name}, is_worth_against, one=one, other=other, prices=prices, thing=thing)
        self.refuses(NoOutlet, {"name": name}, never_worth_less, one=one, other=other, prices=prices)
        self.refuses(NoOutlet, {"name": name}, worth_against, one=one, other=other, prices=prices)
        if alone:
            for amount in ((0, 1), (7, 2)):
                self.refuses(NoOutlet, {"name": name}, worth, net=one, prices=prices, inflow=amount)
                self.refuses(NoOutlet, {"name": name}, inflow_worth, net=one, prices=prices, amount=amount)

    def test_the_least_outlet(self):
        net = Net.of("divide in 1/2 c a; divide c 1/2 d b")
        self.refuses_all("a", net, net, ())
        self.refuses_all("a", net, net, (("b", 1), ("d", 1)))
        self.refuses_all("b", net, net, (("a", 1),))
        self.refuses_all("d", net, net, (("a", 1), ("b", 1), ("c", 1), ("in", 2)))
        self.refuses_all("in", Net(), net, (("a", 1), ("b", 1), ("d", 1)))

    def test_one_ahead_of_other(self):
        one, other = Net.of("divide in 1/2 y z"), Net.of("divide in 1/2 a b")
        self.refuses_all("y", one, other, ())
        self.refuses_all("z", one, other, (("a", 1), ("y", 1)))
        self.refuses_all("a", one, other, (("y", 1), ("z", 1)), alone=False)
        self.refuses_all("b", one, other, (("a", 1), ("y", 1), ("z", 1)), alone=False)
        self.refuses_all("z", one, one, (("y", 1),))

    def test_outlets_that_get_nothing(self):
        self.refuses_all("p", Net.of("weir in 0 p q"), Net(), (("in", 1), ("q", 1)))


class AgainstTest(Case):

    def fit(self, one, other, prices):
        """never_worth_less, worth_against and is_worth_against fit one another, and walks."""
        with self.subTest(one=one.text, other=other.text, prices=prices):
            never = never_less_by_walks(one, other, prices)
            self.same(never_worth_less(one, other, prices), never)
            place = worth_against(one, other, prices)
            if never:
                self.same(place, None)
            else:
                self.assertTrue(is_worth_against(one, other, prices, place))
                self.assertLess(worth_by_walks(one, prices, Fraction(*place)), worth_by_walks(other, prices, Fraction(*place)))
            for inflow in around(cuts(one), cuts(other), [] if place is None else [place]):
                less = worth_by_walks(one, prices, inflow) < worth_by_walks(other, prices, inflow)
                self.same(is_worth_against(one, other, prices, pair(inflow)), less)
            return never

    def both(self, one, other, prices, wanted):
        self.same((self.fit(one, other, prices), self.fit(other, one, prices)), wanted)

    def test_unlike_outlets(self):
        self.both(Net.of("divide in 1/2 a b"), Net.of("divide in 1/2 c d"), (("a", 3), ("b", 1), ("c", 2), ("d", 2)), (True, True))
        self.both(Net.of("divide in 1/2 a b"), Net.of("divide in 1/2 c d"), (("a", 3), ("b", 2), ("c", 2), ("d", 2)), (True, False))
        self.both(Net(), Net.of("weir in 3 a b"), (("a", 0), ("b", 10 ** 30), ("in", 1)), (False, False))

    def test_between_two_borders_only(self):
        # By one the drops from 2 to 3 are worth less, those from 3 to 4 as much more.
        one = Net.of("weir in 2 a b; weir b 1 c d; weir d 1 e f; join a f p; join p e r")
        prices = (("a", 1), ("b", 1), ("c", 0), ("d", 1), ("e", 2), ("r", 1))
        other = Net.of("divide in 1/2 a b")
        self.both(one, other, prices, (False, True))
        two = Net.of("weir in 2 x y; weir y 1 c d; weir d 1 e f; join x f a")
        self.both(two, other, prices, (False, True))
        self.same([is_worth_against(two, other, prices, place) for place in ((2, 1), (3, 1), (5, 2), (7, 2), (4, 1), (9, 1), (2 * 10 ** 12 + 1, 10 ** 12), (4 * 10 ** 12 - 1, 10 ** 12))],
                  [False, True, True, True, False, False, True, True])

    def test_at_one_place_they_touch(self):
        # Ahead by 2 at 2, level at 4, then ahead again: never less; with one drop more of the loss it is.
        one = Net.of("weir in 2 a b; weir b 2 c d")
        self.both(one, Net(), (("a", 2), ("c", 0), ("d", 2), ("in", 1)), (True, False))
        more = Net((("weir", "in", (2, 1), "a", "b"), ("weir", "b", (2 * 10 ** 12 + 1, 10 ** 12), "c", "d")))
        self.both(more, Net(), (("a", 2), ("c", 0), ("d", 2), ("in", 1)), (False, False))

    def test_beyond_the_last_border_only(self):
        one, other = Net.of("weir in 5 a b"), Net.of("weir in 3 c d")
        self.both(one, other, (("a", 3), ("b", 1), ("c", 3), ("d", 2)), (False, False))
        self.both(Net.of("weir in 5 a b"), Net(), (("a", 10 ** 12), ("b", 1), ("in", 2)), (False, False))
        self.both(Net.of("weir in 5 a b"), Net(), (("a", 10 ** 12), ("b", 1), ("in", 1)), (True, False))
        self.both(Net.of("divide in 1/999 a b"), Net.of("divide in 1/1000 a b"), (("a", 1), ("b", 2)), (False, True))

    def test_the_same_worth_throughout(self):
        self.both(NET, EARLY, (("p", 3), ("q", 3)), (True, True))
        self.both(NET, EARLY, (("p", 0), ("q", 0)), (True, True))
        self.both(Net(), Net(), (("in", 9),), (True, True))

    def test_things_that_are_no_inflow(self):
        for thing in (*ODD_INFLOWS, *ODD_THINGS):
            self.told(False, is_worth_against, one=Net.of("weir in 0 p q"), other=Net(), prices=(("in", 1), ("p", 0), ("q", 0)), thing=thing)
        self.told(True, is_worth_against, one=Net.of("weir in 0 p q"), other=Net(), prices=(("in", 1), ("p", 0), ("q", 0)), thing=(1, 10 ** 40))
        self.told(False, is_worth_against, one=Net.of("weir in 0 p q"), other=Net(), prices=(("in", 1), ("p", 0), ("q", 0)), thing=(0, 1))

    def test_many_nets(self):
        chance, found = random.Random(83), [0, 0]
        for one, other in some_pairs(120, 84):
            found[self.fit(one, other, some_prices(chance, one, other))] += 1
        self.assertTrue(min(found) > 20, found)

    def test_nets_of_any_outlets(self):
        chance, nets = random.Random(85), some_nets(60, 86)
        for one, other in zip(nets, nets[::-1]):
            prices = some_prices(chance, one, other)
            self.fit(one, other, prices)
            self.told(never_worth_less(one, other, prices), never_worth_less, one=one, other=other, prices=prices)
            self.steady(worth_against, one=one, other=other, prices=prices)


class InflowWorthTest(Case):

    def beside(self, net, prices, amount):
        """What is told is worth so much, and nothing below it is."""
        place = inflow_worth(net, prices, amount)
        wanted = Fraction(*amount)
        with self.subTest(text=net.text, prices=prices, amount=amount, place=place):
            if place is None:
                self.assertEqual(drop_worth(net, prices), 0)
                self.assertLess(worth_by_walks(net, prices, max(cuts(net), default=0)), wanted)
            else:
                self.same(place, pair(Fraction(*place)))
                self.assertGreaterEqual(worth_by_walks(net, prices, Fraction(*place)), wanted)
                if place != (0, 1):
                    self.assertLess(worth_by_walks(net, prices, Fraction(*place) - min(TINY, Fraction(*place))), wanted)
                else:
                    self.assertEqual(wanted, 0)
        return place

    def test_an_amount_of_0(self):
        for net, prices in ((NET, PRICES), (NET, (("p", 0), ("q", 0))), (NET, (("p", 0), ("q", 1)))):
            self.told((0, 1), inflow_worth, net=net, prices=prices, amount=(0, 1))

    def test_an_amount_that_is_just_reached_and_stays(self):
        prices = (("p", 3), ("q", 0))
        self.same(self.beside(EARLY, prices, (12, 1)), (4, 1))
        self.same(self.beside(EARLY, prices, (12 * 10 ** 12 - 1, 10 ** 12)), (12 * 10 ** 12 - 1, 3 * 10 ** 12))
        self.same(self.beside(EARLY, prices, (12 * 10 ** 12 + 1, 10 ** 12)), None)

    def test_an_amount_at_which_it_stands_still_and_goes_on(self):
        net, prices = Net.of("weir in 2 a b; weir b 3 c d"), (("a", 5), ("c", 0), ("d", 1))
        self.same([self.beside(net, prices, amount) for amount in ((10, 1), (11, 1), (1, 5), (10 ** 30, 1))], [(2, 1), (6, 1), (1, 25), (10 ** 30 - 5, 1)])

    def test_never(self):
        for net in (NET, EARLY, Net.of("weir in 0 p q")):
            self.same(self.beside(net, (("p", 0), ("q", 0)), (1, 10 ** 12)), None)
        self.same(self.beside(Net(), (("in", 0),), (1, 1)), None)

    def test_many_nets(self):
        chance = random.Random(87)
        for net in some_nets(70, 88):
            prices = some_prices(chance, net)
            places = [Fraction(0), *cuts(net)]
            for inflow in (*places, places[-1] + 1, places[-1] / 3):
                amount = pair(worth_by_walks(net, prices, inflow))
                place = self.beside(net, prices, amount)
                self.assertLessEqual(Fraction(*place), inflow)
                self.told(place, inflow_worth, net=net, prices=prices, amount=amount)
                self.beside(net, prices, pair(Fraction(*amount) + TINY))

    def test_prices_that_change_behind_it(self):
        prices = listed(PRICES)
        got = worth(NET, prices, [10, 1])
        prices[0][1] = 9
        self.same(got, (35, 1))


if __name__ == "__main__":
    unittest.main()
