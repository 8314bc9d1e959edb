"""[10]: inflows told back."""

import unittest
from fractions import Fraction

from layernets.back import greatest_amount, inflow_for, least_inflow, most_inflow
from layernets.errors import NoOutlet
from layernets.nets import Net
from layernets.walks import flow
from tests.support import Case, around, cuts, pair, rates, some_nets, walk

NET = Net.of("weir in 3 a r; divide r 1/2 s t; join a s j; weir j 5 p k; join k t q")
GREAT = 10 ** 12
TINY = Fraction(1, 10 ** 12)


class ExamplesTest(Case):

    def test_least_inflow(self):
        for outlet, amount, wanted in (("p", (4, 1), (5, 1)), ("p", (5, 1), (7, 1)), ("p", (6, 1), None), ("q", (0, 1), (0, 1)), ("q", (1, 3), (11, 3)),
                                       ("q", (9, 1), (14, 1))):
            self.told(wanted, least_inflow, net=NET, outlet=outlet, amount=amount)

    def test_most_inflow_and_greatest_amount(self):
        for outlet, amount, wanted in (("q", (0, 1), (3, 1)), ("q", (1, 3), (11, 3)), ("p", (3, 1), (3, 1)), ("p", (5, 1), None)):
            self.told(wanted, most_inflow, net=NET, outlet=outlet, amount=amount)
        self.told((5, 1), greatest_amount, net=NET, outlet="p")
        self.told(None, greatest_amount, net=NET, outlet="q")

    def test_inflow_for(self):
        self.told((5, 1), inflow_for, net=NET, flows=(("p", (4, 1)), ("q", (1, 1))))
        self.told(None, inflow_for, net=NET, flows=(("p", (4, 1)), ("q", (2, 1))))
        self.told((2, 3), inflow_for, net=Net(), flows=(("in", (2, 3)),))

    def test_error(self):
        self.refuses(NoOutlet, {"name": "j"}, greatest_amount, net=NET, outlet="j")


class BackTest(Case):

    def back(self, text, outlet, amount, least, most):
        """What is told, and walks just below, at and just above it."""
        net = Net.of(text)
        with self.subTest(text=text, outlet=outlet, amount=amount):
            self.told(least, least_inflow, net=net, outlet=outlet, amount=amount)
            self.told(most, most_inflow, net=net, outlet=outlet, amount=amount)
            amount = Fraction(*amount)
            if least is not None:
                place = Fraction(*least)
                self.assertEqual(walk(net.parts, place)[outlet], amount)
                if place > 0:
                    self.assertLess(walk(net.parts, place - TINY)[outlet], amount)
            if most is not None:
                place = Fraction(*most)
                self.assertEqual(walk(net.parts, place)[outlet], amount)
                self.assertGreater(walk(net.parts, place + TINY)[outlet], amount)

    def test_an_amount_of_0(self):
        self.back("-", "in", (0, 1), (0, 1), (0, 1))
        self.back("weir in 3 p q", "p", (0, 1), (0, 1), (0, 1))
        self.back("weir in 3 p q", "q", (0, 1), (0, 1), (3, 1))
        self.back("weir in 0 p q", "p", (0, 1), (0, 1), None)
        self.back("weir in 0 p q", "q", (0, 1), (0, 1), (0, 1))

    def test_just_reached_and_stays(self):
        self.back("weir in 3 p q", "p", (3, 1), (3, 1), None)
        self.back("weir in 3 p q", "p", (2, 1), (2, 1), (2, 1))
        self.back("weir in 3 p q", "p", (2999, 1000), (2999, 1000), (2999, 1000))
        text = "weir in 2 a b; weir b 3 q c; join a c p"
        for amount, least, most in (((1, 1), (1, 1), (1, 1)), ((2, 1), (2, 1), (5, 1)), ((5, 2), (11, 2), (11, 2)), ((GREAT, 1), (GREAT + 3, 1), (GREAT + 3, 1))):
            self.back(text, "p", amount, least, most)
        for amount, least, most in (((0, 1), (0, 1), (2, 1)), ((3, 1), (5, 1), None), ((5, 2), (9, 2), (9, 2))):
            self.back(text, "q", amount, least, most)

    def test_never_reached(self):
        self.back("weir in 3 p q", "p", (3001, 1000), None, None)
        self.back("weir in 3 p q", "p", (GREAT, 1), None, None)
        self.back("weir in 0 p q", "p", (1, GREAT), None, None)
        self.back("divide in 1 p q", "q", (1, 1), None, None)

    def test_two_levels(self):
        # p gets 1, stands still, gets 1 more, stands still again.
        text = "weir in 1 a b; weir b 1 c d; weir d 2 e f; divide e 1/2 g h; join a g p; join c h q; join q f r"
        for amount, least, most in (((1, 2), (1, 2), (1, 2)), ((1, 1), (1, 1), (2, 1)), ((3, 2), (3, 1), (3, 1)), ((2, 1), (4, 1), None), ((9, 4), None, None)):
            self.back(text, "p", amount, least, most)

    def test_greatest_amount(self):
        for text, outlet, wanted in (("-", "in", None), ("weir in 3 p q", "p", (3, 1)), ("weir in 3 p q", "q", None), ("weir in 0 p q", "p", (0, 1)),
                                     ("divide in 1/1000 p q", "p", None), ("divide in 0 p q", "p", (0, 1)), ("divide in 1/3 a b; weir a 7/2 p q", "p", (7, 2)),
                                     ("weir in 2 a b; divide a 1/3 p q", "p", (2, 3)), ("weir in 2 a b; divide a 1/3 p q", "q", (4, 3)),
                                     ("weir in 2 a b; weir a 3 p q", "p", (2, 1)), ("weir in 2 a b; weir b 3 q c; weir c 4 d e; join a d p", "p", (6, 1))):
            self.told(wanted, greatest_amount, net=Net.of(text), outlet=outlet)

    def test_no_outlet(self):
        for net, names in ((NET, ("in", "a", "r", "s", "t", "j", "k", "zz", "weir")), (Net(), ("a", "out"))):
            for name in names:
                self.refuses(NoOutlet, {"name": name}, greatest_amount, net=net, outlet=name)
                for function in (least_inflow, most_inflow):
                    for amount in ((0, 1), (1, 3), (GREAT, 1)):
                        self.refuses(NoOutlet, {"name": name}, function, net=net, outlet=name, amount=amount)

    def test_many_nets(self):
        for net in some_nets(130, 17):
            places = [Fraction(0), *cuts(net)]
            last = rates(net.parts, places[-1])
            for outlet in net.outlets:
                with self.subTest(text=net.text, outlet=outlet):
                    top = walk(net.parts, places[-1])[outlet]
                    self.same(greatest_amount(net, outlet), None if last[outlet] > 0 else pair(top))
                    amounts = {walk(net.parts, inflow)[outlet] for inflow in around(places)} | {top, top + TINY, top + 5}
                    for amount in amounts:
                        self.beside(net, outlet, amount, last[outlet] == 0, top)

    def beside(self, net, outlet, amount, ends, top):
        least, most = least_inflow(net, outlet, pair(amount)), most_inflow(net, outlet, pair(amount))
        self.assertEqual(least is None, ends and amount > top)
        self.assertEqual(most is None, ends and amount >= top)
        if least is not None:
            place = Fraction(*least)
            self.assertEqual(walk(net.parts, place)[outlet], amount)
            self.assertTrue(place == 0 or walk(net.parts, place - min(place, TINY / 10 ** 9))[outlet] < amount)
        if most is not None:
            place = Fraction(*most)
            self.assertEqual(walk(net.parts, place)[outlet], amount)
            self.assertGreater(walk(net.parts, place + TINY / 10 ** 9)[outlet], amount)


class InflowForTest(Case):

    def test_flows_that_flow_tells(self):
        for net in (Net(), NET, *some_nets(60, 18)):
            for inflow in ((0, 1), (1, 3), (5, 1), (22, 7), (GREAT, 1), (10 ** 40, 3)):
                self.same(inflow_for(net, flow(net, inflow)), inflow)
        self.told((22, 7), inflow_for, net=NET, flows=flow(NET, (22, 7)))

    def test_flows_that_are_changed(self):
        for net in (Net(), NET, *some_nets(60, 19)):
            told = flow(net, (22, 7))
            for place, (outlet, amount) in enumerate(told):
                for row in ((outlet, pair(Fraction(*amount) + 1)), ("zzz", amount), (outlet, pair(Fraction(*amount) + TINY))):
                    changed = tuple(sorted(told[:place] + (row,) + told[place + 1:]))
                    # So much more may come out at the outlet that gets all in the end.
                    total = sum(Fraction(*amount) for _, amount in changed)
                    amounts = walk(net.parts, total)
                    fits = changed == tuple((outlet, pair(amounts[outlet])) for outlet in net.outlets)
                    self.same(inflow_for(net, changed), pair(total) if fits else None)
                self.same(inflow_for(net, told[:place] + told[place + 1:]), None)
            self.same(inflow_for(net, (*told, ("zzz", (0, 1)))), None)
            self.same(inflow_for(net, (*told, ("zzz", (1, 1)))), None)

    def test_amounts_that_change_places(self):
        self.told(None, inflow_for, net=Net.of("weir in 3 p q"), flows=(("p", (1, 1)), ("q", (3, 1))))
        self.told((4, 1), inflow_for, net=Net.of("weir in 3 p q"), flows=(("p", (3, 1)), ("q", (1, 1))))
        # Just that no more comes out at p is not enough: it must be filled first.
        self.told(None, inflow_for, net=Net.of("weir in 3 p q"), flows=(("p", (2, 1)), ("q", (1, 1))))
        self.told((2, 1), inflow_for, net=Net.of("weir in 3 p q"), flows=(("p", (2, 1)), ("q", (0, 1))))

    def test_no_flows(self):
        for net in (Net(), NET):
            self.told(None, inflow_for, net=net, flows=())
        self.told(None, inflow_for, net=NET, flows=(("in", (5, 1)),))
        self.told(None, inflow_for, net=Net(), flows=(("out", (5, 1)),))
        self.told((0, 1), inflow_for, net=NET, flows=(("p", (0, 1)), ("q", (0, 1))))
        # An OUTLET that gets nothing must be told, too.
        self.told(None, inflow_for, net=Net.of("weir in 0 p q"), flows=(("q", (5, 1)),))
        self.told((5, 1), inflow_for, net=Net.of("weir in 0 p q"), flows=(("p", (0, 1)), ("q", (5, 1))))


if __name__ == "__main__":
    unittest.main()
