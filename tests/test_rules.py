"""[15]: claims."""

import random
import unittest
from fractions import Fraction
from itertools import permutations

from layernets.rules import by_share, evenly, in_turn, topmost
from layernets.tables import amounts, is_table, outlets_of
from tests.support import Case, around, listed, outflow_by, pair, table_borders

CLAIMS = (("cara", (3, 1)), ("ann", (1, 1)), ("bob", (3, 1)))
RULES = (in_turn, by_share, evenly, topmost)
REST = ((None, (("rest", (1, 1)),)),)
NAMES = ("a", "b", "in", "p", "res", "rests", "zz", "abcdefgh", "x", "y")


def whole(claims):
    """All claims together."""
    return sum((Fraction(*amount) for _, amount in claims), Fraction(0))


def level(heights, inflow):
    """Up to which height an INFLOW, of at most all heights together, fills these heights evenly."""
    low = Fraction(0)
    for place, height in enumerate(sorted(heights)):
        many = len(heights) - place
        if (height - low) * many >= inflow:
            return low + inflow / many
        inflow -= (height - low) * many
        low = height
    return low


def parted(rule, claims, inflow):
    """Who gets what of an INFLOW by a rule, reckoned straight from the claims."""
    rows = [(name, Fraction(*amount)) for name, amount in claims]
    inflow = Fraction(inflow)
    met = min(inflow, whole(claims))
    got = {"rest": inflow - met}
    ahead = Fraction(0)
    for name, amount in rows:
        if rule is in_turn:
            got[name] = max(min(met - ahead, amount), Fraction(0))
        elif rule is by_share:
            got[name] = met * amount / whole(claims)
        elif rule is evenly:
            got[name] = min(amount, level([height for _, height in rows], met))
        else:
            # What is unmet is what evenly would give of the unmet sum.
            got[name] = amount - min(amount, level([height for _, height in rows], whole(claims) - met))
        ahead += amount
    return {name: amount for name, amount in got.items() if amount > 0}


def some_claims(count, seed):
    chance = random.Random(seed)
    rows = []
    for number in range(count):
        many = number % 8
        some = [pair(Fraction(chance.randint(1, 6), chance.choice((1, 1, 2, 3, 7)))) for _ in range(3)]
        rows.append(tuple((name, chance.choice(some)) for name in chance.sample(NAMES, many)))
    return rows


class ExamplesTest(Case):

    def test_in_turn(self):
        self.told((((3, 1), (("cara", (1, 1)),)), ((4, 1), (("ann", (1, 1)),)), ((7, 1), (("bob", (1, 1)),)), (None, (("rest", (1, 1)),))), in_turn, claims=CLAIMS)

    def test_by_share(self):
        self.told((((7, 1), (("ann", (1, 7)), ("bob", (3, 7)), ("cara", (3, 7)))), (None, (("rest", (1, 1)),))), by_share, claims=CLAIMS)

    def test_evenly(self):
        self.told((((3, 1), (("ann", (1, 3)), ("bob", (1, 3)), ("cara", (1, 3)))), ((7, 1), (("bob", (1, 2)), ("cara", (1, 2)))), (None, (("rest", (1, 1)),))),
                  evenly, claims=CLAIMS)
        self.told((((1, 1), (("x", (1, 2)), ("y", (1, 2)))), ((5, 4), (("y", (1, 1)),)), (None, (("rest", (1, 1)),))), evenly, claims=(("x", (1, 2)), ("y", (3, 4))))

    def test_topmost(self):
        self.told((((4, 1), (("bob", (1, 2)), ("cara", (1, 2)))), ((7, 1), (("ann", (1, 3)), ("bob", (1, 3)), ("cara", (1, 3)))), (None, (("rest", (1, 1)),))),
                  topmost, claims=CLAIMS)

    def test_no_claims(self):
        for rule in RULES:
            self.told(REST, rule, claims=())


class ClaimsTest(Case):

    def test_one_claim(self):
        for amount in ((1, 1), (7, 3), (10 ** 12, 1), (1, 10 ** 12), (10 ** 12, 10 ** 12 - 1)):
            for rule in RULES:
                self.told(((amount, (("x", (1, 1)),)), *REST), rule, claims=(("x", amount),))

    def test_alike_claims(self):
        claims = (("c", (3, 2)), ("a", (3, 2)), ("b", (3, 2)))
        wanted = (((9, 2), (("a", (1, 3)), ("b", (1, 3)), ("c", (1, 3)))), *REST)
        for rule in (by_share, evenly, topmost):
            self.told(wanted, rule, claims=claims)
        self.told((((3, 2), (("c", (1, 1)),)), ((3, 1), (("a", (1, 1)),)), ((9, 2), (("b", (1, 1)),)), *REST), in_turn, claims=claims)

    def test_unlike_claims(self):
        claims = (("z", (1, 1)), ("a", (2, 1)), ("m", (4, 1)))
        self.told((((3, 1), (("a", (1, 3)), ("m", (1, 3)), ("z", (1, 3)))), ((5, 1), (("a", (1, 2)), ("m", (1, 2)))), ((7, 1), (("m", (1, 1)),)), *REST), evenly, claims=claims)
        self.told((((2, 1), (("m", (1, 1)),)), ((4, 1), (("a", (1, 2)), ("m", (1, 2)))), ((7, 1), (("a", (1, 3)), ("m", (1, 3)), ("z", (1, 3)))), *REST), topmost, claims=claims)
        self.told((((7, 1), (("a", (2, 7)), ("m", (4, 7)), ("z", (1, 7)))), *REST), by_share, claims=claims)
        self.told((((1, 1), (("z", (1, 1)),)), ((3, 1), (("a", (1, 1)),)), ((7, 1), (("m", (1, 1)),)), *REST), in_turn, claims=claims)

    def test_seven_claims(self):
        claims = tuple((name, (number + 1, number + 2)) for number, name in enumerate(NAMES[:7]))
        for rule in RULES:
            table = rule(claims)
            self.assertTrue(is_table(table))
            self.same(len(table), 2 if rule is by_share else 8)

    def test_another_order(self):
        for claims in (CLAIMS, (("x", (1, 2)), ("y", (3, 4)), ("a", (1, 2)), ("b", (5, 1)))):
            for other in permutations(claims):
                for rule in (by_share, evenly, topmost):
                    self.same(rule(other), rule(claims))
                table = in_turn(other)
                self.same([layer[1] for layer in table], [((name, (1, 1)),) for name, _ in other] + [(("rest", (1, 1)),)])

    def test_neighbours_of_one_name_only(self):
        # Each LAYER has one NAME, also if amounts are alike.
        for claims in some_claims(16, 61):
            for (until, shares), (name, amount) in zip(in_turn(claims), claims):
                self.same(shares, ((name, (1, 1)),))

    def test_amounts_are_compared_by_what_they_are_worth(self):
        claims = (("a", (1, 2)), ("b", (2, 5)), ("c", (10, 9)), ("d", (9, 10)))
        self.same([shares for _, shares in evenly(claims)][1:],
                  [(("a", (1, 3)), ("c", (1, 3)), ("d", (1, 3))), (("c", (1, 2)), ("d", (1, 2))), (("c", (1, 1)),), (("rest", (1, 1)),)])

    def test_many_claims(self):
        for claims in some_claims(80, 62):
            for rule in RULES:
                table = rule(claims)
                with self.subTest(rule=rule.__name__, claims=claims):
                    self.told(table, rule, claims=claims)
                    self.assertTrue(is_table(table))
                    self.same(outlets_of(table), tuple(sorted(["rest"] + [name for name, _ in claims])))
                    # At each border, beside it, between borders and beyond.
                    for inflow in around(table_borders(table), [whole(claims)]):
                        self.assertEqual(outflow_by(table, inflow), parted(rule, claims, inflow))

    def test_everybody_gets_just_the_claim_in_all(self):
        for claims in some_claims(24, 63):
            for rule in RULES:
                table = rule(claims)
                for more in (Fraction(0), Fraction(1, 3), Fraction(10 ** 12)):
                    got = amounts(table, pair(whole(claims) + more))
                    self.same(got, tuple(sorted([*claims, ("rest", pair(more))])))

    def test_evenly_and_topmost_mirror_one_another(self):
        for claims in some_claims(40, 64):
            c, one, other = whole(claims), evenly(claims), topmost(claims)
            for inflow in around(table_borders(one), [c - border for border in table_borders(other)], [c / 2]):
                if inflow <= c:
                    got, rest = outflow_by(one, inflow), outflow_by(other, c - inflow)
                    for name, amount in claims:
                        self.assertEqual(got.get(name, 0) + rest.get(name, 0), Fraction(*amount))

    def test_what_is_handed_in_may_change(self):
        for rule in RULES:
            claims = listed(CLAIMS)
            table = rule(claims)
            claims[0][1][0] = 9
            claims.pop()
            self.same(table, rule(CLAIMS))


if __name__ == "__main__":
    unittest.main()
