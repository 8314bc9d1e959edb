"""[9]: never less."""

import unittest
from fractions import Fraction

from layernets.errors import NoOutlet
from layernets.lead import compare, is_less_at, less_at, most_lead, never_less
from layernets.nets import Net
from tests.support import ODD_INFLOWS, Case, around, cuts, pair, rates, some_pairs, walk

ONE, OTHER = Net.of("weir in 3 a r; divide r 1/2 s t; join a s j"), Net.of("weir in 5 a r; divide r 1/4 s t; join a s j")
LOW = Net.of("weir in 3 a r; divide r 1/3 s t; join a s j")
GREAT = 10 ** 12


def lead(one, other, outlet, inflow):
    """How much more the outlet gets by one than by other, by walks."""
    return walk(one.parts, inflow)[outlet] - walk(other.parts, inflow)[outlet]


class ExamplesTest(Case):

    def test_never_less(self):
        for one, other, outlet, wanted in ((ONE, OTHER, "j", False), (ONE, OTHER, "t", False), (ONE, LOW, "j", True), (LOW, ONE, "j", False), (ONE, ONE, "t", True)):
            self.told(wanted, never_less, one=one, other=other, outlet=outlet)
        self.told(None, less_at, one=ONE, other=LOW, outlet="j")

    def test_is_less_at(self):
        for outlet, thing, wanted in (("j", less_at(ONE, OTHER, "j"), True), ("t", less_at(ONE, OTHER, "t"), True), ("j", (4, 1), True), ("j", (9, 1), False),
                                      ("t", (10, 1), True)):
            self.told(wanted, is_less_at, one=ONE, other=OTHER, outlet=outlet, thing=thing)

    def test_most_lead(self):
        for one, other, outlet, wanted in ((OTHER, ONE, "j", (1, 1)), (ONE, OTHER, "j", None), (LOW, ONE, "j", (0, 1)), (ONE, OTHER, "t", (1, 1))):
            self.told(wanted, most_lead, one=one, other=other, outlet=outlet)

    def test_compare(self):
        for one, other, outlet, wanted in ((ONE, OTHER, "j", "apart"), (ONE, LOW, "j", "more"), (LOW, ONE, "j", "less"), (ONE, ONE, "t", "alike")):
            self.told(wanted, compare, one=one, other=other, outlet=outlet)

    def test_error(self):
        self.refuses(NoOutlet, {"name": "s"}, never_less, one=ONE, other=OTHER, outlet="s")


class LeadTest(Case):

    def leads(self, one, other, outlet, wanted, lead_of_one, lead_of_other):
        """All five functions of these Nets, both ways about."""
        one, other = Net.of(one), Net.of(other)
        turned = {"alike": "alike", "more": "less", "less": "more", "apart": "apart"}[wanted]
        for first, second, word, most, least in ((one, other, wanted, lead_of_one, lead_of_other), (other, one, turned, lead_of_other, lead_of_one)):
            with self.subTest(one=first.text, other=second.text):
                self.told(word, compare, one=first, other=second, outlet=outlet)
                self.told(most, most_lead, one=first, other=second, outlet=outlet)
                self.told(word in ("alike", "more"), never_less, one=first, other=second, outlet=outlet)
                found = self.steady(less_at, one=first, other=second, outlet=outlet)
                self.assertEqual(found is None, least == (0, 1))
                for inflow in around(cuts(one), cuts(other)):
                    self.told(lead(first, second, outlet, inflow) < 0, is_less_at, one=first, other=second, outlet=outlet, thing=pair(inflow))
                if found is not None:
                    self.assertLess(lead(first, second, outlet, Fraction(*found)), 0)
                    self.told(True, is_less_at, one=first, other=second, outlet=outlet, thing=found)

    def test_the_same(self):
        self.leads("-", "-", "in", "alike", (0, 1), (0, 1))
        self.leads("weir in 3 p q", "weir in 3 p r", "p", "alike", (0, 1), (0, 1))
        self.leads("weir in 3 p q", "weir in 1 a b; weir b 2 c q; join a c p", "p", "alike", (0, 1), (0, 1))
        # An OUTLET that never gets anything by either.
        self.leads("weir in 0 p q", "divide in 0 p r", "p", "alike", (0, 1), (0, 1))

    def test_one_never_less(self):
        self.leads("weir in 4 p q", "weir in 3 p q", "p", "more", (1, 1), (0, 1))
        self.leads("weir in 4 p q", "weir in 3 p q", "q", "less", (0, 1), (1, 1))
        self.leads("divide in 1/2 p q", "divide in 1/3 p q", "p", "more", None, (0, 1))
        self.leads("weir in 0 q p", "weir in 3 q p", "p", "more", (3, 1), (0, 1))
        self.leads("divide in 1 p q", "divide in 0 p q", "p", "more", None, (0, 1))

    def test_only_between_two_borders(self):
        # One has got 1 more at 3, from 4 on as much.
        self.leads("weir in 3 p q; weir q 1 x y; join x y z", "weir in 2 a b; weir b 1 c d; weir d 1 e f; join a e p; join c f z", "p", "more", (1, 1), (0, 1))
        self.leads("weir in 2 a b; weir b 3 q c; join a c p", "weir in 2 a b; weir b 3 c d; weir d 3 q e; join a c f; join f e p", "p", "less", (0, 1), (3, 1))

    def test_only_beyond_the_last_border(self):
        self.leads("weir in 3 a b; divide b 1/2 c q; join a c p", "weir in 3 a b; divide b 499/1000 c q; join a c p", "p", "more", None, (0, 1))
        self.leads(f"weir in {GREAT} a b; divide b 1/2 c q; join a c p", f"weir in {GREAT} a b; divide b 499/1000 c q; join a c p", "q", "less", (0, 1), None)

    def test_ahead_for_long_and_less_in_the_end(self):
        # One is ahead by 10 ** 12 and loses 1/1000 of each drop.
        self.leads(f"weir in {GREAT} a b; divide b 1/1000 c q; join a c p", f"weir in {GREAT} q b; divide b 1/500 p r", "p", "apart", (GREAT, 1), None)
        self.leads("weir in 5 p q", "weir in 5 q p", "p", "apart", (5, 1), None)

    def test_as_much_at_a_border_alone(self):
        # At 4 both have got 2; ahead of it one has more, behind it, too.
        self.leads("weir in 2 a b; weir b 2 q c; join a c p", "divide in 1/2 p q", "p", "more", None, (0, 1))
        # At 4 both have got 2, then other gets more for ever.
        self.leads("weir in 2 p q", "divide in 1/2 p q", "p", "apart", (1, 1), None)

    def test_each_somewhere(self):
        self.leads("weir in 1 a b; weir b 2 q c; join a c p", "weir in 1 q b; weir b 3 p c", "p", "apart", None, (1, 1))

    def test_other_outlets_do_not_matter(self):
        self.leads("weir in 3 p q", "weir in 2 p r; divide r 1/2 x y", "p", "more", (1, 1), (0, 1))

    def test_many_pairs(self):
        for one, other in some_pairs(260, 16):
            places = [Fraction(0), *sorted({*cuts(one), *cuts(other)})]
            for outlet in one.outlets:
                leads = [lead(one, other, outlet, place) for place in places]
                slope = rates(one.parts, places[-1])[outlet] - rates(other.parts, places[-1])[outlet]
                less, more = min(leads) < 0 or slope < 0, max(leads) > 0 or slope > 0
                with self.subTest(one=one.text, other=other.text, outlet=outlet):
                    self.same(never_less(one, other, outlet), not less)
                    self.same(never_less(other, one, outlet), not more)
                    self.same(compare(one, other, outlet), {(False, False): "alike", (False, True): "more", (True, False): "less", (True, True): "apart"}[less, more])
                    self.same(most_lead(one, other, outlet), None if slope > 0 else pair(max(0, *leads)))
                    found = less_at(one, other, outlet)
                    self.assertEqual(found is None, not less)
                    if less:
                        self.assertLess(lead(one, other, outlet, Fraction(*found)), 0)
                        self.same(is_less_at(one, other, outlet, found), True)
                    for inflow in around(places):
                        self.same(is_less_at(one, other, outlet, pair(inflow)), lead(one, other, outlet, inflow) < 0)


class IsLessAtTest(Case):

    def test_no_inflow(self):
        one, other = Net.of("weir in 0 p q"), Net.of("divide in 1 p q")
        self.told(True, is_less_at, one=one, other=other, outlet="p", thing=(1, 10 ** 40))
        self.told(True, is_less_at, one=one, other=other, outlet="p", thing=(10 ** 200, 1))
        for thing in (*ODD_INFLOWS, (20, 2), (-3, 1), [3, 1], (0, 1)):
            with self.subTest(thing=thing):
                self.told(False, is_less_at, one=one, other=other, outlet="p", thing=thing)


class NoOutletTest(Case):

    def refused_by_all(self, one, other, outlet):
        for function in (never_less, less_at, most_lead, compare):
            self.refuses(NoOutlet, {"name": outlet}, function, one=one, other=other, outlet=outlet)
        for thing in ((3, 1), (2, 4), None, [1, 1], "x", ()):
            self.refuses(NoOutlet, {"name": outlet}, is_less_at, one=one, other=other, outlet=outlet, thing=thing)

    def test_an_outlet_of_one_alone(self):
        wide = Net.of("weir in 3 a r; divide r 1/2 s t; join a s j; weir t 1 x y")
        for outlet in ("x", "y", "t"):
            self.refused_by_all(ONE, wide, outlet)
            self.refused_by_all(wide, ONE, outlet)
        self.refused_by_all(Net(), ONE, "in")
        self.refused_by_all(ONE, Net(), "in")
        self.refused_by_all(Net(), ONE, "j")

    def test_a_channel_that_is_taken_or_none(self):
        for outlet in ("a", "r", "s", "in", "zz", "weir", "abcdefgh"):
            self.refused_by_all(ONE, OTHER, outlet)
            self.refused_by_all(ONE, ONE, outlet)


if __name__ == "__main__":
    unittest.main()
