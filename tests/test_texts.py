"""[19]: AMOUNTS, PARTS and SHARES as texts."""

import unittest
from fractions import Fraction
from math import gcd

from layernets.errors import BadText
from layernets.texts import amount_from, amount_text, part_from, part_text, shares_from, shares_text
from tests.support import Case, listed

DIGITS_40 = 1234567890123456789012345678901234567890
AMOUNTS = (
    ((0, 1), "0"), ((1, 1), "1"), ((3, 1), "3"), ((10, 1), "10"), ((100, 1), "100"), ((1, 2), "1/2"), ((7, 2), "7/2"),
    ((10, 3), "10/3"), ((3, 10), "3/10"), ((1, 100), "1/100"), ((999, 1000), "999/1000"),
    ((10 ** 12, 1), "1000000000000"), ((1, 10 ** 12), "1/1000000000000"),
    ((10 ** 40 - 1, 1), "9" * 40), ((1, 10 ** 40 - 1), "1/" + "9" * 40), ((DIGITS_40, 1), str(DIGITS_40)),
    ((10 ** 39, 10 ** 40 - 1), "1" + "0" * 39 + "/" + "9" * 40),
)
PARTS = (
    (("weir", "in", (3, 1), "a", "r"), "weir in 3 a r"),
    (("weir", "in", (0, 1), "a", "r"), "weir in 0 a r"),
    (("weir", "r", (7, 2), "abcdefgh", "zzzzzzzz"), "weir r 7/2 abcdefgh zzzzzzzz"),
    (("weir", "a", (10 ** 40 - 1, 10 ** 39), "b", "c"), "weir a " + "9" * 40 + "/1" + "0" * 39 + " b c"),
    (("divide", "r", (1, 2), "s", "t"), "divide r 1/2 s t"),
    (("divide", "r", (0, 1), "s", "t"), "divide r 0 s t"),
    (("divide", "r", (1, 1), "s", "t"), "divide r 1 s t"),
    (("divide", "r", (10 ** 39, 10 ** 40 - 1), "s", "t"), "divide r 1" + "0" * 39 + "/" + "9" * 40 + " s t"),
    (("join", "a", "s", "j"), "join a s j"),
    # NAMEs that are alike, and those that are words of PARTS.
    (("join", "a", "a", "a"), "join a a a"),
    (("join", "join", "weir", "divide"), "join join weir divide"),
    (("weir", "weir", (1, 1), "weir", "weir"), "weir weir 1 weir weir"),
    (("divide", "divide", (1, 1), "join", "weir"), "divide divide 1 join weir"),
    (("divide", "in", (1, 2), "in", "in"), "divide in 1/2 in in"),
)
SHARES = (
    ((("p", (1, 1)),), "p 1"),
    ((("in", (1, 1)),), "in 1"),
    ((("abcdefgh", (1, 1)),), "abcdefgh 1"),
    ((("p", (1, 2)), ("q", (1, 2))), "p 1/2; q 1/2"),
    ((("a", (1, 2)), ("ab", (1, 3)), ("b", (1, 6))), "a 1/2; ab 1/3; b 1/6"),
    ((("a", (999, 1000)), ("z", (1, 1000))), "a 999/1000; z 1/1000"),
    ((("a", (1, 10 ** 40 - 1)), ("b", (10 ** 40 - 2, 10 ** 40 - 1))), "a 1/" + "9" * 40 + "; b " + "9" * 39 + "8/" + "9" * 40),
)
NO_AMOUNTS = (
    "", " ", "-", "+", "/", "//", "-1", "+1", "--1", "-0", "1-", " 1", "1 ", "1  ", "1 2", "00", "01", "007", "0/1", "0/2", "0/0",
    "1/1", "3/1", "10/1", "2/2", "2/4", "6/3", "4/6", "1/0", "0/0", "1/", "/1", "/2", "1//2", "1/2/3", "1/2/", "/1/2", "01/2",
    "1/02", "00/3", "1/00", "-1/2", "1/-2", "+1/2", "1/+2", "1 /2", "1/ 2", " 1/2", "1/2 ", "1.0", "0.5", ".5", "1,5", "1e3",
    "1_000", "1_0/3", "0x1", "a", "a/b", "1a", "one", "(1, 2)", "1;", "1; ", "1\n", "\n1", "1\t", "1/2\n", "1/2\r", "\u0661", "1\u0662",
    "1/\u0662", "\u00b2", "\u00bd", "\uff11", "1\u00a0", "\x00", "None", "True",
)
NO_NAMES = (
    "", "A", "aB", "Ab", "abcdefghi", "abcdefghijklmnop", "a1", "1", "1/2", "-", "_", "a_b", "a-b", "a.b", "a;", "a,", "\u00e9", "a\u00e9",
    "\u00df", "\u03b1", "\uff41", "a\n", "\ta", "a/b",
)
NO_SHARES_ABOVE_0 = ("0", "0/1", "2", "3/2", "10", "1000/999", "-1", "-1/2", "2/4", "1/1", "1/0", "01", "1/02", "", "a", "1/2/2")


class AmountTest(Case):

    def test_examples(self):
        self.same((amount_text((3, 1)), amount_text((1, 2))), ("3", "1/2"))
        self.same((amount_from("3"), amount_from("7/2"), amount_from("0")), ((3, 1), (7, 2), (0, 1)))
        self.refused(BadText, {"piece": 0}, amount_from, "2/4")

    def test_there_and_back(self):
        for amount, text in AMOUNTS:
            with self.subTest(text):
                self.same(amount_text(amount), text)
                self.same(amount_text(listed(amount)), text)
                self.same(amount_text(amount=amount), text)
                self.same(amount_from(text), amount)
                self.same(amount_from(text=text), amount)

    def test_a_list_stays_as_it_was(self):
        amount = [7, 2]
        amount_text(amount)
        self.same(amount, [7, 2])

    def test_wrong_texts(self):
        for text in NO_AMOUNTS:
            with self.subTest(text):
                self.refused(BadText, {"piece": 0}, amount_from, text)
                self.refused(BadText, {"piece": 0}, amount_from, text=text)

    def test_all_small_tops_and_bottoms(self):
        for top in range(25):
            self.same(amount_from(f"{top}"), (top, 1))
            for bottom in range(25):
                with self.subTest(top=top, bottom=bottom):
                    if bottom > 1 and gcd(top, bottom) == 1:
                        self.same(amount_from(f"{top}/{bottom}"), (top, bottom))
                    else:
                        self.refused(BadText, {"piece": 0}, amount_from, f"{top}/{bottom}")


class PartTest(Case):

    def refused_part(self, text):
        self.refused(BadText, {"piece": 0}, part_from, text)

    def test_examples(self):
        self.same(part_text(("weir", "in", (3, 1), "a", "r")), "weir in 3 a r")
        self.same(part_text(("join", "a", "s", "j")), "join a s j")
        self.same(part_from("divide r 1/2 s t"), ("divide", "r", (1, 2), "s", "t"))
        self.same(part_from("join a s j"), ("join", "a", "s", "j"))
        self.refused_part("divide r 3/2 s t")

    def test_there_and_back(self):
        for part, text in PARTS:
            with self.subTest(text):
                self.same(part_text(part), text)
                self.same(part_text(listed(part)), text)
                self.same(part_text(part=part), text)
                self.same(part_from(text), part)
                self.same(part_from(text=text), part)

    def test_a_list_stays_as_it_was(self):
        part = ["weir", "in", [7, 2], "a", "r"]
        part_text(part)
        self.same(part, ["weir", "in", [7, 2], "a", "r"])

    def test_wrong_amounts_and_shares(self):
        for amount in NO_AMOUNTS:
            with self.subTest(amount):
                self.refused_part(f"weir in {amount} a r")
                self.refused_part(f"divide in {amount} a r")

    def test_a_limit_may_be_above_1_and_a_share_may_not(self):
        for amount in ("2", "3/2", "1000/999", "1" + "0" * 39):
            with self.subTest(amount):
                self.same(part_from(f"weir in {amount} a r"), ("weir", "in", amount_from(amount), "a", "r"))
                self.refused_part(f"divide in {amount} a r")

    def test_wrong_names_at_each_place(self):
        for text in ("weir in 1/2 a r", "divide in 1/2 a r", "join b c d"):
            words = text.split(" ")
            for place in range(1, len(words)):
                if words[place] == "1/2":
                    continue
                for name in NO_NAMES:
                    with self.subTest(text=text, place=place, name=name):
                        self.refused_part(" ".join([*words[:place], name, *words[place + 1:]]))

    def test_names_of_one_and_of_eight_letters(self):
        self.same(part_from("join a bcdefghi z"), ("join", "a", "bcdefghi", "z"))
        self.refused_part("join a bcdefghij z")

    def test_wrong_words(self):
        for word in ("", "Weir", "WEIR", "wier", "weirs", "divider", "Divide", "joins", "Join", "JOIN", "in", "a", "-", "3"):
            with self.subTest(word):
                self.refused_part(f"{word} in 1/2 a r")
                self.refused_part(f"{word} a b c")

    def test_too_few_and_too_many_words(self):
        for text in ("weir in 1/2 a r", "divide in 1/2 a r", "join b c d"):
            words = text.split(" ")
            for number in range(len(words)):
                with self.subTest(text=text, number=number):
                    self.refused_part(" ".join(words[:number]))
                    self.refused_part(" ".join(words[:number] + words[number + 1:]))
            self.refused_part(text + " e")
            self.refused_part(text + " 1")
            self.refused_part("a " + text)

    def test_the_words_in_another_order(self):
        for text in ("in weir 3 a r", "weir 3 in a r", "weir in a 3 r", "weir in a r 3", "join a b 3", "join 3 a b", "join a b 3 c", "join a 3 b c",
                     "join a 1/2 b", "join a b c d", "weir in a r", "divide in a r", "weir a b c d", "divide a b c d"):
            with self.subTest(text):
                self.refused_part(text)

    def test_blanks(self):
        for text in ("weir in 1/2 a r", "divide in 1/2 a r", "join b c d"):
            words = text.split(" ")
            for wrong in (" " + text, text + " ", " " + text + " ", text.replace(" ", "  "), text.replace(" ", "\t"), text.replace(" ", "\n"),
                          text.replace(" ", "\u00a0"), text.replace(" ", ""), text.replace(" ", "_"), text + "\n", "\n" + text, text + ";", text + "; "):
                with self.subTest(wrong):
                    self.refused_part(wrong)
            for place in range(1, len(words)):
                with self.subTest(text=text, place=place):
                    self.refused_part(" ".join(words[:place]) + "  " + " ".join(words[place:]))

    def test_more_than_one_piece_and_none(self):
        for text in ("", " ", "-", ";", "; ", "join a b c; join d e f", "join a b c; ", "; join a b c", "join a b c;join d e f"):
            with self.subTest(text):
                self.refused_part(text)


class SharesTest(Case):

    def refused_shares(self, piece, text):
        with self.subTest(text):
            self.refused(BadText, {"piece": piece}, shares_from, text)

    def test_examples(self):
        self.same(shares_text((("p", (1, 2)), ("q", (1, 2)))), "p 1/2; q 1/2")
        self.same(shares_from("p 1/2; q 1/2"), (("p", (1, 2)), ("q", (1, 2))))
        self.same(shares_from("p 1"), (("p", (1, 1)),))
        self.refused_shares(2, "p 1/2; q 1/3")

    def test_there_and_back(self):
        for shares, text in SHARES:
            with self.subTest(text):
                self.same(shares_text(shares), text)
                self.same(shares_text(listed(shares)), text)
                self.same(shares_text(shares=shares), text)
                self.same(shares_from(text), shares)
                self.same(shares_from(text=text), shares)

    def test_a_list_stays_as_it_was(self):
        shares = [["p", [1, 2]], ["q", [1, 2]]]
        shares_text(shares)
        self.same(shares, [["p", [1, 2]], ["q", [1, 2]]])

    def test_all_pairs_of_small_shares(self):
        shares = [Fraction(top, bottom) for bottom in range(1, 9) for top in range(1, bottom + 1) if gcd(top, bottom) == 1]
        for one in shares:
            for other in shares:
                text = f"x {one}; y {other}"
                if one + other == 1:
                    with self.subTest(text):
                        self.same(shares_from(text), (("x", one.as_integer_ratio()), ("y", other.as_integer_ratio())))
                else:
                    self.refused_shares(2, text)

    def test_shares_that_do_not_come_to_1(self):
        self.refused_shares(1, "p 1/2")
        self.refused_shares(1, "p 999/1000")
        self.refused_shares(2, "p 1/2; q 2/3")
        self.refused_shares(2, "p 1; q 1")
        self.refused_shares(2, "p 1; q 1/1000")
        self.refused_shares(3, "p 1/3; q 1/3; r 1/4")
        self.refused_shares(3, "p 1/2; q 1/2; r 1/2")
        self.refused_shares(4, "a 1/2; b 1/2; c 1/2; d 1/2")
        self.refused_shares(2, "a 1/" + "9" * 40 + "; b " + "9" * 39 + "7/" + "9" * 40)

    def test_a_share_of_0_is_a_wrong_piece(self):
        self.refused_shares(0, "p 0")
        self.refused_shares(1, "p 1; q 0")
        self.refused_shares(0, "p 0; q 1")
        self.refused_shares(1, "p 1; q 0; r 1")

    def test_no_signs(self):
        self.refused_shares(0, "")

    def test_out_of_order(self):
        self.refused_shares(1, "q 1/2; p 1/2")
        self.refused_shares(1, "p 1/2; p 1/2")
        self.refused_shares(2, "a 1/3; b 1/3; a 1/3")
        self.refused_shares(2, "a 1/3; c 1/3; b 1/3")
        self.refused_shares(1, "ab 1/2; a 1/2")
        self.refused_shares(1, "b 1/3; a 1/3; q 2/4")
        self.refused_shares(1, "b 1/3; a 1/3; c 1/4")

    def test_wrong_shares(self):
        for share in NO_SHARES_ABOVE_0:
            self.refused_shares(0, f"p {share}")
            self.refused_shares(0, f"p {share}; q 1/2")
            self.refused_shares(1, f"p 1/2; q {share}")
            self.refused_shares(1, f"p 1/2; q {share}; r 1/2")
            self.refused_shares(2, f"p 1/2; q 1/2; r {share}")

    def test_wrong_names(self):
        for name in NO_NAMES:
            self.refused_shares(0, f"{name} 1")
            self.refused_shares(0, f"{name} 1/2; z 1/2")
            self.refused_shares(1, f"a 1/2; {name} 1/2")

    def test_too_few_and_too_many_words(self):
        for text in ("p", "1", "p1", "p/1", "p 1 1", "p q 1", "1 p", "p 1/2 q 1/2", "p 1,", "p: 1", "p=1", "p 1;"):
            self.refused_shares(0, text)
            self.refused_shares(1, "a 1/2; " + text)

    def test_blanks_and_semicolons(self):
        for text in (" ", ";", "; ", " p 1", "p  1", "p 1 ", "p\t1", "p 1\n", "\np 1", "p\u00a01", "p 1/2;q 1/2", "p 1/2 ; q 1/2", "; p 1",
                     "p 1/2;\nq 1/2", "p 1/2, q 1/2", "-"):
            self.refused_shares(0, text)
        for text in ("p 1; ", "p 1/2;  q 1/2", "p 1/2; q  1/2", "p 1/2; q 1/2 ", "p 1/2; q 1/2;", "p 1/2; ; q 1/2", "p 1/2; q 1/2;r 1/2"):
            self.refused_shares(1, text)
        self.refused_shares(2, "p 1/2; q 1/2; ")

    def test_the_first_of_two_wrong_pieces_is_told(self):
        self.refused_shares(1, "a 1/2; b 2/4; C 1/2")
        self.refused_shares(0, "A 1/2; b 2/4; c 1/2")
        self.refused_shares(2, "a 1/2; b 1/4; a 1/4; c 0")


if __name__ == "__main__":
    unittest.main()
