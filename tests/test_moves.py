"""[12]: another limit, another order."""

import random
import unittest
from fractions import Fraction

from layernets.alike import alike
from layernets.errors import NoPlace
from layernets.moves import exchanged_parts, limit_changed, limit_for, unchanged_to
from layernets.nets import Net
from tests.support import LIMITS, Case, around, cuts, listed, outflow, pair, some_nets, walk

NET = Net.of("weir in 3 a r; divide r 1/2 s t; join a s j; weir j 5 p k; join k t q")
TWO = Net.of("divide in 1/3 a b; weir a 1 c d; weir b 2 e f")
GREAT = 10 ** 12


def flows(net, inflow):
    """What comes out at each outlet, by walks."""
    amounts = walk(net.parts, inflow)
    return {outlet: amounts[outlet] for outlet in net.outlets}


class ExamplesTest(Case):

    def test_limit_changed(self):
        self.same(limit_changed(NET, 3, (4, 1)).text, "weir in 3 a r; divide r 1/2 s t; join a s j; weir j 4 p k; join k t q")
        for place, limit, wanted in ((3, (4, 1), (5, 1)), (3, (9, 1), (7, 1)), (0, (1, 1), (1, 1)), (0, (3, 1), None), (0, (4, 1), (3, 1))):
            self.told(wanted, unchanged_to, net=NET, place=place, limit=limit)

    def test_limit_for(self):
        for place, border, wanted in ((3, (7, 1), (5, 1)), (3, (9, 1), (6, 1)), (0, (2, 3), (2, 3))):
            self.told(wanted, limit_for, net=NET, place=place, border=border)
        self.assertTrue(limit_changed(NET, 3, limit_for(NET, 3, (5, 1))) == limit_changed(NET, 3, (4, 1)))

    def test_exchanged_parts(self):
        self.same(exchanged_parts(TWO, 1).text, "divide in 1/3 a b; weir b 2 e f; weir a 1 c d")

    def test_errors(self):
        self.refuses(NoPlace, {"number": 0}, exchanged_parts, net=TWO, place=0)
        self.refuses(NoPlace, {"number": 1}, limit_changed, net=NET, place=1, limit=(1, 1))


class LimitChangedTest(Case):

    def test_each_weir(self):
        for place, limit, text in ((0, (0, 1), "weir in 0 a r; weir a 2 b c; divide r 1/2 d e"), (0, (7, 2), "weir in 7/2 a r; weir a 2 b c; divide r 1/2 d e"),
                                   (1, (GREAT, 1), f"weir in 3 a r; weir a {GREAT} b c; divide r 1/2 d e"), (1, (2, 1), "weir in 3 a r; weir a 2 b c; divide r 1/2 d e"),
                                   (1, (1, GREAT), f"weir in 3 a r; weir a 1/{GREAT} b c; divide r 1/2 d e")):
            net = Net.of("weir in 3 a r; weir a 2 b c; divide r 1/2 d e")
            self.told(Net.of(text), limit_changed, net=net, place=place, limit=limit)
            self.same(net.text, "weir in 3 a r; weir a 2 b c; divide r 1/2 d e")

    def test_a_list_is_copied(self):
        limit = [7, 2]
        net = limit_changed(NET, 0, limit)
        limit[0] = 9
        self.same(net.parts[0], ("weir", "in", (7, 2), "a", "r"))

    def test_no_weir_at_this_place(self):
        for net, places in ((NET, (-1, -2, -5, -6, 1, 2, 4, 5, 6, 10 ** 30, -10 ** 30)), (Net(), (-1, 0, 1)), (TWO, (-1, -2, 0, 3))):
            for place in places:
                for limit in ((0, 1), (3, 1)):
                    self.refuses(NoPlace, {"number": place}, limit_changed, net=net, place=place, limit=limit)
                    self.refuses(NoPlace, {"number": place}, limit_for, net=net, place=place, border=limit)
                    self.refuses(NoPlace, {"number": place}, unchanged_to, net=net, place=place, limit=limit)


class LimitForTest(Case):

    def test_many_nets(self):
        for net in some_nets(80, 32):
            for place, part in enumerate(net.parts):
                if part[0] != "weir":
                    continue
                for border in around(cuts(net)):
                    limit = limit_for(net, place, pair(border))
                    self.same(limit, pair(walk(net.parts, border)[part[1]]))
                other = limit_changed(net, place, limit_for(net, place, (5, 2)))
                with self.subTest(text=net.text, place=place):
                    # Just the drops up to the border go on in to, and those behind it in rest.
                    for inflow in around(cuts(net), [(5, 2)]):
                        now, border = walk(other.parts, inflow), walk(other.parts, min(inflow, Fraction(5, 2)))
                        self.assertEqual(now[part[3]], border[part[1]])
                        self.assertEqual(now[part[4]], now[part[1]] - border[part[1]])

    def test_borders(self):
        net = Net.of("weir in 0 a r; weir a 3 b c; divide r 1/4 d e; weir d 1 f g")
        for place, border, wanted in ((0, (0, 1), (0, 1)), (0, (9, 1), (9, 1)), (1, (9, 1), (0, 1)), (3, (0, 1), (0, 1)), (3, (9, 1), (9, 4)), (3, (10 ** 30, 1), (10 ** 30 // 4, 1)),
                                      (3, (1, GREAT), (1, 4 * GREAT))):
            self.told(wanted, limit_for, net=net, place=place, border=border)


class UnchangedToTest(Case):

    def unchanged(self, text, place, limit, wanted):
        net = Net.of(text)
        with self.subTest(text=text, place=place, limit=limit):
            self.told(wanted, unchanged_to, net=net, place=place, limit=limit)
            self.beside(net, place, limit, wanted)

    def beside(self, net, place, limit, wanted):
        """By walks it is so: up to there, just above, and where there is no end."""
        word, one, _, to, rest = net.parts[place]
        other = Net(net.parts[:place] + ((word, one, limit, to, rest),) + net.parts[place + 1:])
        places = around(cuts(net), cuts(other), [] if wanted is None else [wanted])
        for inflow in places:
            if wanted is None or inflow <= Fraction(*wanted):
                self.assertEqual(flows(net, inflow), flows(other, inflow))
        if wanted is not None:
            above = Fraction(*wanted) + Fraction(1, 10 ** 15)
            self.assertNotEqual(flows(net, above), flows(other, above))

    def test_limits(self):
        text = "weir in 3 p q"
        self.unchanged(text, 0, (3, 1), None)
        self.unchanged(text, 0, (2, 1), (2, 1))
        self.unchanged(text, 0, (4, 1), (3, 1))
        self.unchanged(text, 0, (0, 1), (0, 1))
        self.unchanged(text, 0, (GREAT, 1), (3, 1))
        self.unchanged(text, 0, (1, GREAT), (1, GREAT))
        self.unchanged("weir in 0 p q", 0, (0, 1), None)
        self.unchanged("weir in 0 p q", 0, (1, 1), (0, 1))
        self.unchanged("divide in 1/3 a b; weir b 2 p q", 1, (4, 1), (3, 1))
        self.unchanged("divide in 1/3 a b; weir b 2 p q", 1, (1, 1), (3, 2))

    def test_weirs_that_nothing_reaches_or_that_are_never_filled(self):
        self.unchanged("weir in 0 a r; weir a 3 b c", 1, (0, 1), None)
        self.unchanged("weir in 0 a r; weir a 0 b c", 1, (9, 1), None)
        self.unchanged("weir in 3 a r; weir a 3 b c", 1, (4, 1), None)
        self.unchanged("weir in 3 a r; weir a 5 b c", 1, (3, 1), None)
        self.unchanged("weir in 3 a r; weir a 5 b c", 1, (2, 1), (2, 1))

    def test_sides_that_are_joined_again(self):
        self.unchanged("weir in 3 a b; join a b p", 0, (9, 1), None)
        self.unchanged("weir in 3 a b; join a b p; weir p 4 x y", 0, (0, 1), None)
        self.unchanged("weir in 3 a b; join a b p; weir p 4 x y", 2, (5, 1), (4, 1))

    def test_a_channel_that_stands_still(self):
        text = "weir in 2 a b; weir b 3 x d; join a d c; weir c 2 p q"
        self.unchanged(text, 3, (3, 1), (5, 1))
        self.unchanged(text, 3, (1, 1), (1, 1))
        self.unchanged(text, 0, (1, 1), (1, 1))

    def test_what_grows_again_to_the_same(self):
        # With the other limit p gets as much again in the end; the flows ahead of that are not the same.
        self.unchanged("weir in 2 a b; weir b 3 q c; join a c p", 0, (4, 1), (2, 1))

    def test_many_nets(self):
        chance = random.Random(33)
        for net in some_nets(130, 34):
            for place, part in enumerate(net.parts):
                if part[0] == "weir":
                    limit = chance.choice(LIMITS)
                    with self.subTest(text=net.text, place=place, limit=limit):
                        self.beside(net, place, limit, unchanged_to(net, place, limit))
                        self.same(unchanged_to(net, place, part[2]), None)


class ExchangedPartsTest(Case):

    def test_each_two_kinds(self):
        for text, place, wanted in (
            ("divide in 1/2 a b; weir a 1 c d; divide b 1/3 e f", 1, "divide in 1/2 a b; divide b 1/3 e f; weir a 1 c d"),
            ("divide in 1/2 a b; divide a 1/4 c d; divide b 1/3 e f", 1, "divide in 1/2 a b; divide b 1/3 e f; divide a 1/4 c d"),
            ("divide in 1/2 a b; divide b 1/3 c d; weir a 1 e f", 1, "divide in 1/2 a b; weir a 1 e f; divide b 1/3 c d"),
            ("divide in 1/2 a b; divide b 1/3 c d; weir c 1 e f; join a d g", 2, "divide in 1/2 a b; divide b 1/3 c d; join a d g; weir c 1 e f"),
            ("divide in 1/2 a b; divide b 1/3 c d; join a d g; weir c 1 e f; join e f h", 2, "divide in 1/2 a b; divide b 1/3 c d; weir c 1 e f; join a d g; join e f h"),
        ):
            net = Net.of(text)
            self.told(Net.of(wanted), exchanged_parts, net=net, place=place)
            self.told(net, exchanged_parts, net=Net.of(wanted), place=place)
            self.same(net.text, text)
            self.assertIs(alike(net, Net.of(wanted)), True)

    def test_the_next_part_takes_what_this_one_makes(self):
        for text, place in (("weir in 1 a b; weir a 1 c d", 0), ("weir in 1 a b; weir b 1 c d", 0), ("weir in 1 a b; divide b 1/2 c d", 0), ("weir in 1 a b; join a b c", 0),
                            ("divide in 1/2 a b; weir b 1 c d; join a c e", 1), ("divide in 1/2 a b; weir b 1 c d; join c a e", 1),
                            ("divide in 1/2 a b; weir b 1 c d; join a d e", 1), ("divide in 1/2 a b; join b a c; weir c 1 d e", 1),
                            ("divide in 1/2 a b; divide a 1/2 c d; join b c e; join d e f", 2), ("divide in 1/2 a b; divide a 1/2 c d; join b c e; join e d f", 2)):
            self.refuses(NoPlace, {"number": place}, exchanged_parts, net=Net.of(text), place=place)

    def test_not_both(self):
        for net, places in ((TWO, (-1, -2, -3, -4, 2, 3, 4, 10 ** 30, -10 ** 30)), (Net(), (-2, -1, 0, 1)), (Net.of("weir in 1 a b"), (-2, -1, 0, 1))):
            for place in places:
                self.refuses(NoPlace, {"number": place}, exchanged_parts, net=net, place=place)

    def test_many_nets(self):
        done = 0
        for net in some_nets(130, 35):
            for place in range(len(net) - 1):
                one, after = net.parts[place], net.parts[place + 1]
                takes, makes = after[1:3] if after[0] == "join" else after[1:2], one[3:]
                if set(takes) & set(makes):
                    self.refused(NoPlace, {"number": place}, exchanged_parts, net, place)
                    continue
                done += 1
                with self.subTest(text=net.text, place=place):
                    other = exchanged_parts(net, place)
                    self.same(other.parts, net.parts[:place] + (after, one) + net.parts[place + 2:])
                    self.assertIs(alike(net, other), True)
                    for inflow in around(cuts(net)):
                        self.assertEqual(outflow(other, inflow), outflow(net, inflow))
        self.assertGreater(done, 100)

    def test_lists_in_the_net(self):
        self.assertTrue(exchanged_parts(Net(listed(TWO.parts)), 1) == exchanged_parts(TWO, 1))


if __name__ == "__main__":
    unittest.main()
