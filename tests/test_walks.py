"""[5]: what runs through a Net."""

import unittest
from fractions import Fraction

from layernets.errors import NoChannel, NoOutlet
from layernets.nets import Net
from layernets.walks import flow, flow_of, passed, walked
from tests.support import Case, around, cuts, pair, some_nets, walk

PARTS = (("weir", "in", (3, 1), "a", "r"), ("divide", "r", (1, 2), "s", "t"), ("join", "a", "s", "j"))
NET = Net((*PARTS, ("weir", "j", (5, 1), "p", "u"), ("join", "u", "t", "q")))
GREAT = 10 ** 12


class ExamplesTest(Case):

    def test_flow(self):
        self.told((("p", (5, 1)), ("q", (5, 1))), flow, net=NET, inflow=(10, 1))
        self.told((("p", (7, 2)), ("q", (1, 2))), flow, net=NET, inflow=(4, 1))
        self.told((("p", (0, 1)), ("q", (0, 1))), flow, net=NET, inflow=(0, 1))
        self.told((("in", (7, 2)),), flow, net=Net(), inflow=(7, 2))

    def test_walked(self):
        wanted = (("a", (3, 1)), ("in", (10, 1)), ("j", (13, 2)), ("p", (5, 1)), ("q", (5, 1)), ("r", (7, 1)), ("s", (7, 2)), ("t", (7, 2)), ("u", (3, 2)))
        self.told(wanted, walked, net=NET, inflow=(10, 1))

    def test_one_channel(self):
        self.told((5, 1), flow_of, net=NET, outlet="q", inflow=(10, 1))
        self.told((13, 2), passed, net=NET, channel="j", inflow=(10, 1))
        self.told((10, 1), passed, net=NET, channel="in", inflow=(10, 1))

    def test_errors(self):
        self.refuses(NoOutlet, {"name": "a"}, flow_of, net=NET, outlet="a", inflow=(10, 1))
        self.refuses(NoChannel, {"name": "z"}, passed, net=NET, channel="z", inflow=(10, 1))


class WalkTest(Case):

    def flows(self, text, inflow, wanted):
        """All channels of the Net with this text, by all four functions."""
        net = Net.of(text)
        self.told(tuple(sorted({**wanted, "in": inflow}.items())), walked, net=net, inflow=inflow)
        self.told(tuple((outlet, wanted.get(outlet, inflow)) for outlet in net.outlets), flow, net=net, inflow=inflow)
        for channel in net.channels:
            self.told(wanted.get(channel, inflow), passed, net=net, channel=channel, inflow=inflow)
            if channel in net.outlets:
                self.told(wanted.get(channel, inflow), flow_of, net=net, outlet=channel, inflow=inflow)
            else:
                self.refuses(NoOutlet, {"name": channel}, flow_of, net=net, outlet=channel, inflow=inflow)

    def test_the_net_without_parts(self):
        for inflow in ((0, 1), (1, 3), (7, 1), (GREAT, GREAT - 1), (10 ** 30, 1)):
            self.flows("-", inflow, {})

    def test_below_at_and_above_a_limit(self):
        self.flows("weir in 3 a r", (0, 1), {"a": (0, 1), "r": (0, 1)})
        self.flows("weir in 3 a r", (2, 1), {"a": (2, 1), "r": (0, 1)})
        self.flows("weir in 3 a r", (8, 3), {"a": (8, 3), "r": (0, 1)})
        self.flows("weir in 3 a r", (3, 1), {"a": (3, 1), "r": (0, 1)})
        self.flows("weir in 3 a r", (10, 3), {"a": (3, 1), "r": (1, 3)})
        self.flows("weir in 7/2 r a", (5, 1), {"r": (7, 2), "a": (3, 2)})

    def test_a_limit_of_0(self):
        self.flows("weir in 0 a r", (0, 1), {"a": (0, 1), "r": (0, 1)})
        self.flows("weir in 0 a r", (1, 9), {"a": (0, 1), "r": (1, 9)})
        self.flows("weir in 0 a r; weir r 0 b c", (4, 1), {"a": (0, 1), "r": (4, 1), "b": (0, 1), "c": (4, 1)})

    def test_shares(self):
        self.flows("divide in 0 a r", (4, 1), {"a": (0, 1), "r": (4, 1)})
        self.flows("divide in 1 a r", (4, 1), {"a": (4, 1), "r": (0, 1)})
        self.flows("divide in 1/3 a r", (4, 1), {"a": (4, 3), "r": (8, 3)})
        self.flows("divide in 3/4 r a", (2, 3), {"r": (1, 2), "a": (1, 6)})

    def test_channels_that_nothing_reaches(self):
        wanted = {"a": (0, 1), "r": (5, 1), "b": (0, 1), "c": (0, 1), "d": (0, 1), "e": (0, 1), "j": (0, 1), "k": (0, 1)}
        self.flows("weir in 0 a r; weir a 2 b c; divide b 1/2 d e; join d e j; join c j k", (5, 1), wanted)
        self.flows("divide in 0 a r; join a r j", (5, 1), {"a": (0, 1), "r": (5, 1), "j": (5, 1)})

    def test_parts_behind_one_another(self):
        text = "weir in 2 a b; weir b 3 c d; join a c e; weir e 4 f g"
        self.flows(text, (9, 2), {"a": (2, 1), "b": (5, 2), "c": (5, 2), "d": (0, 1), "e": (9, 2), "f": (4, 1), "g": (1, 2)})
        self.flows(text, (6, 1), {"a": (2, 1), "b": (4, 1), "c": (3, 1), "d": (1, 1), "e": (5, 1), "f": (4, 1), "g": (1, 1)})

    def test_great_tops_and_bottoms(self):
        self.flows(f"weir in {GREAT} a r", (GREAT - 1, 1), {"a": (GREAT - 1, 1), "r": (0, 1)})
        self.flows(f"weir in {GREAT} a r", (GREAT + 1, 1), {"a": (GREAT, 1), "r": (1, 1)})
        self.flows(f"weir in 1/{GREAT} a r", (1, GREAT - 1), {"a": (1, GREAT), "r": (1, GREAT * (GREAT - 1))})
        self.flows("divide in 999/1000 a r", (GREAT - 1, GREAT), {"a": pair(Fraction(999 * (GREAT - 1), 1000 * GREAT)), "r": pair(Fraction(GREAT - 1, 1000 * GREAT))})
        self.flows("weir in 3 a r", (10 ** 30, 1), {"a": (3, 1), "r": (10 ** 30 - 3, 1)})

    def test_no_outlet_and_no_channel(self):
        for name in ("in", "a", "r", "s", "j", "u", "z", "zz", "weir", "abcdefgh"):
            self.refuses(NoOutlet, {"name": name}, flow_of, net=NET, outlet=name, inflow=(1, 1))
        for name in ("z", "zz", "weir", "join", "abcdefgh"):
            self.refuses(NoChannel, {"name": name}, passed, net=NET, channel=name, inflow=(1, 1))
        self.refuses(NoOutlet, {"name": "a"}, flow_of, net=Net(), outlet="a", inflow=(1, 1))
        self.refuses(NoChannel, {"name": "a"}, passed, net=Net(), channel="a", inflow=(1, 1))

    def test_many_nets(self):
        for net in some_nets(130, 5):
            for inflow in around(cuts(net)):
                amounts = walk(net.parts, inflow)
                with self.subTest(text=net.text, inflow=inflow):
                    self.same(walked(net, pair(inflow)), tuple((channel, pair(amounts[channel])) for channel in sorted(amounts)))
                    told = flow(net, pair(inflow))
                    self.same(told, tuple((outlet, pair(amounts[outlet])) for outlet in net.outlets))
                    # What comes out together is what came in.
                    self.assertEqual(sum(Fraction(*amount) for _, amount in told), inflow)
            for outlet in net.outlets:
                self.same(flow_of(net, outlet, (17, 3)), pair(walk(net.parts, Fraction(17, 3))[outlet]))


if __name__ == "__main__":
    unittest.main()
