"""[3], [4]: Nets."""

import unittest
from itertools import product

from layernets.errors import BadPart, BadText, Known, NoChannel, NoPlace
from layernets.nets import Net, first_parts, is_part, made_by, renamed, taken_by, with_part
from tests.support import ODD_THINGS, Case, listed, tupled

PARTS = (
    ("weir", "in", (3, 1), "a", "r"),
    ("divide", "r", (1, 2), "s", "t"),
    ("join", "a", "s", "j"),
    ("weir", "j", (5, 1), "p", "q"),
)
TEXT = "weir in 3 a r; divide r 1/2 s t; join a s j; weir j 5 p q"
WIDE = 10 ** 60


class ExamplesTest(Case):

    def setUp(self):
        self.net = Net(PARTS)

    def test_properties(self):
        self.same(self.net.text, TEXT)
        self.same(self.net.channels, ("a", "in", "j", "p", "q", "r", "s", "t"))
        self.same(self.net.outlets, ("p", "q", "t"))
        self.same(self.net.weirs, 2)
        self.same(len(self.net), 4)

    def test_of_and_places(self):
        self.assertTrue(Net.of(TEXT) == self.net)
        self.same(Net().text, "-")
        self.same(Net().outlets, ("in",))
        self.assertTrue(Net.of("-") == Net())
        self.same((made_by(self.net, "s"), taken_by(self.net, "s")), (1, 2))
        self.same((made_by(self.net, "in"), taken_by(self.net, "q")), (None, None))

    def test_other_nets(self):
        self.same(with_part(self.net, ("join", "q", "t", "z")).outlets, ("p", "z"))
        self.same(first_parts(self.net, 2).text, "weir in 3 a r; divide r 1/2 s t")
        self.assertTrue(first_parts(self.net, 0) == Net())
        self.same(renamed(self.net, "s", "half").text, "weir in 3 a r; divide r 1/2 half t; join a half j; weir j 5 p q")

    def test_is_part(self):
        self.assertIs(is_part(("join", "a", "s", "j")), True)
        self.assertIs(is_part(("divide", "r", (3, 2), "s", "t")), False)
        self.assertIs(is_part(("weir", "r", (2, 4), "s", "t")), False)
        self.assertIs(is_part(["join", "a", "s", "j"]), False)

    def test_errors(self):
        self.refused(BadPart, {"place": 1}, Net, (("weir", "in", (3, 1), "a", "r"), ("join", "a", "in", "j")))
        self.refused(BadPart, {"place": 4}, with_part, self.net, ("divide", "q", (1, 2), "y", "y"))
        self.refused(BadText, {"piece": 1}, Net.of, "weir in 3 a r; weir a 2/4 b c")
        self.refused(Known, {"name": "t"}, renamed, self.net, "s", "t")
        self.refused(NoChannel, {"name": "zz"}, taken_by, self.net, "zz")


class NetTest(Case):

    def test_the_net_without_parts(self):
        for net in (Net(), Net(()), Net([]), Net(parts=()), Net.of("-")):
            self.same(net.parts, ())
            self.same(net.channels, ("in",))
            self.same(net.outlets, ("in",))
            self.same(net.weirs, 0)
            self.same(net.text, "-")
            self.same(len(net), 0)
            self.assertTrue(net == Net())

    def test_each_kind_of_part(self):
        for part, outlets, weirs, text in (
            (("weir", "in", (3, 1), "a", "r"), ("a", "r"), 1, "weir in 3 a r"),
            (("weir", "in", (0, 1), "z", "b"), ("b", "z"), 1, "weir in 0 z b"),
            (("divide", "in", (0, 1), "a", "r"), ("a", "r"), 0, "divide in 0 a r"),
            (("divide", "in", (1, 1), "a", "r"), ("a", "r"), 0, "divide in 1 a r"),
            (("divide", "in", (999, 1000), "c", "b"), ("b", "c"), 0, "divide in 999/1000 c b"),
        ):
            with self.subTest(text):
                net = Net((part,))
                self.same(net.parts, (part,))
                self.same(net.channels, tuple(sorted(("in", *outlets))))
                self.same(net.outlets, outlets)
                self.same(net.weirs, weirs)
                self.same(net.text, text)
                self.same(len(net), 1)
                self.assertTrue(Net.of(text) == net)

    def test_a_join_behind_a_divider(self):
        net = Net((("divide", "in", (1, 3), "b", "a"), ("join", "b", "a", "c")))
        self.same((net.channels, net.outlets, net.weirs, len(net)), (("a", "b", "c", "in"), ("c",), 0, 2))

    def test_names_of_one_and_of_eight_letters(self):
        net = Net((("weir", "in", (1, 1), "a", "abcdefgh"), ("join", "abcdefgh", "a", "zzzzzzzz")))
        self.same(net.outlets, ("zzzzzzzz",))
        self.same(net.text, "weir in 1 a abcdefgh; join abcdefgh a zzzzzzzz")

    def test_names_that_are_words(self):
        net = Net((("weir", "in", (1, 1), "weir", "join"), ("divide", "weir", (1, 2), "divide", "r"), ("join", "join", "divide", "weirs")))
        self.same(net.channels, ("divide", "in", "join", "r", "weir", "weirs"))
        self.same(net.outlets, ("r", "weirs"))
        self.same(net.weirs, 1)
        self.assertTrue(Net.of(net.text) == net)

    def test_numbers_far_above_the_bounds(self):
        parts = (("weir", "in", (WIDE, 1), "a", "b"), ("weir", "a", (WIDE, WIDE + 1), "c", "d"), ("divide", "b", (WIDE - 1, WIDE), "e", "f"))
        net = Net(parts)
        self.same(net.parts, parts)
        self.same(net.text, f"weir in {WIDE} a b; weir a {WIDE}/{WIDE + 1} c d; divide b {WIDE - 1}/{WIDE} e f")

    def test_more_parts_than_the_bounds_let(self):
        names = ["in"] + [chr(97 + k) * 2 for k in range(20)]
        net = Net([("weir", names[k], (k, 1), names[k + 1], names[k + 1][0]) for k in range(20)])
        self.same((len(net), net.weirs, len(net.channels), len(net.outlets)), (20, 20, 41, 21))
        self.assertTrue(Net.of(net.text) == net)

    def test_lists_for_tuples(self):
        for parts in (listed(PARTS), tuple(listed(PARTS)), list(PARTS), [list(part) for part in PARTS]):
            net = Net(parts)
            self.same(net.parts, PARTS)
            self.assertTrue(net == Net(PARTS))
            self.same(net.text, TEXT)

    def test_what_is_handed_in_stays_and_is_copied(self):
        parts = listed(PARTS)
        net = Net(parts)
        self.same(parts, listed(PARTS))
        parts[0][2][0] = 99
        parts[1][1] = "zz"
        parts.append(["join", "p", "q", "u"])
        self.same(net.parts, PARTS)
        self.same(net.text, TEXT)
        self.same((net.channels, net.outlets, net.weirs, len(net)), (("a", "in", "j", "p", "q", "r", "s", "t"), ("p", "q", "t"), 2, 4))
        self.assertTrue(net == Net(PARTS))

    def test_no_setters(self):
        net = Net(PARTS)
        for name in ("parts", "channels", "outlets", "weirs", "text"):
            with self.subTest(name):
                with self.assertRaises(AttributeError):
                    setattr(net, name, getattr(net, name))
        self.same(net.text, TEXT)

    def test_no_iteration(self):
        for net in (Net(), Net(PARTS)):
            for call in (list, tuple, sorted):
                with self.assertRaises(TypeError):
                    call(net)
            with self.assertRaises(TypeError):
                for _ in net:
                    pass

    def test_equal(self):
        net = Net(PARTS)
        self.assertIs(net == Net(listed(PARTS)), True)
        self.assertIs(net != Net(PARTS), False)
        self.assertIs(net == net, True)
        for other in (Net(), Net(PARTS[:3]), Net((*PARTS[:3], ("weir", "j", (5, 1), "q", "p"))), Net((*PARTS[:3], ("weir", "j", (5, 2), "p", "q"))),
                      Net((*PARTS[:3], ("divide", "j", (1, 1), "p", "q"))), Net((*PARTS[:2], ("join", "s", "a", "j"), PARTS[3])),
                      PARTS, TEXT, None, True, 4, list(PARTS)):
            with self.subTest(other=other):
                self.assertIs(net == other, False)
                self.assertIs(net != other, True)
        self.assertIs(Net() == (), False)

    def test_the_order_of_parts_matters_for_equal(self):
        one = Net.of("divide in 1/3 a b; weir a 1 c d; weir b 2 e f")
        other = Net.of("divide in 1/3 a b; weir b 2 e f; weir a 1 c d")
        self.assertIs(one == other, False)
        self.same(one.outlets, other.outlets)


class BadPartTest(Case):

    def bad(self, place, *parts):
        with self.subTest(parts=parts):
            self.refused(BadPart, {"place": place}, Net, parts)
            self.refused(BadPart, {"place": place}, Net, parts=listed(parts))
            if place > 0:
                ahead = Net(parts[:place])
                text = ahead.text
                self.refused(BadPart, {"place": place}, with_part, ahead, parts[place])
                self.refused(BadPart, {"place": place}, with_part, net=ahead, part=listed(parts[place]))
                self.same(ahead.text, text)
            else:
                self.refused(BadPart, {"place": 0}, with_part, Net(), parts[0])

    def test_a_channel_that_is_not_there(self):
        self.bad(0, ("weir", "a", (1, 1), "b", "c"))
        self.bad(0, ("divide", "a", (1, 2), "b", "c"))
        self.bad(0, ("join", "in", "a", "b"))
        self.bad(0, ("join", "a", "in", "b"))
        self.bad(0, ("join", "a", "b", "c"))
        self.bad(4, *PARTS, ("weir", "zz", (1, 1), "y", "z"))
        self.bad(4, *PARTS, ("divide", "zz", (1, 2), "y", "z"))
        self.bad(4, *PARTS, ("join", "zz", "p", "z"))
        self.bad(4, *PARTS, ("join", "p", "zz", "z"))

    def test_a_channel_that_comes_later(self):
        self.bad(0, ("weir", "a", (1, 1), "b", "c"), ("weir", "in", (1, 1), "a", "d"))
        self.bad(1, ("weir", "in", (1, 1), "a", "b"), ("join", "a", "d", "e"), ("divide", "b", (1, 2), "c", "d"))

    def test_a_channel_of_its_own(self):
        self.bad(0, ("weir", "a", (1, 1), "a", "b"))
        self.bad(0, ("join", "in", "a", "a"))
        self.bad(1, PARTS[0], ("join", "a", "z", "z"))

    def test_a_channel_that_is_taken(self):
        self.bad(1, PARTS[0], ("weir", "in", (1, 1), "y", "z"))
        self.bad(1, PARTS[0], ("divide", "in", (1, 1), "y", "z"))
        self.bad(1, PARTS[0], ("join", "in", "a", "z"))
        self.bad(1, PARTS[0], ("join", "a", "in", "z"))
        self.bad(4, *PARTS, ("weir", "a", (1, 1), "y", "z"))
        self.bad(4, *PARTS, ("divide", "s", (1, 1), "y", "z"))
        self.bad(4, *PARTS, ("join", "p", "s", "z"))
        self.bad(4, *PARTS, ("join", "r", "q", "z"))

    def test_a_join_of_one_channel_twice(self):
        self.bad(0, ("join", "in", "in", "a"))
        self.bad(1, PARTS[0], ("join", "a", "a", "z"))
        self.bad(4, *PARTS, ("join", "q", "q", "z"))

    def test_a_name_that_a_channel_had(self):
        self.bad(0, ("weir", "in", (1, 1), "in", "b"))
        self.bad(0, ("weir", "in", (1, 1), "b", "in"))
        self.bad(0, ("divide", "in", (1, 2), "in", "b"))
        self.bad(0, ("divide", "in", (1, 2), "b", "in"))
        self.bad(1, PARTS[0], ("join", "a", "r", "in"))
        self.bad(1, PARTS[0], ("join", "a", "r", "a"))
        self.bad(1, PARTS[0], ("join", "a", "r", "r"))
        self.bad(4, *PARTS, ("weir", "p", (1, 1), "p", "z"))
        self.bad(4, *PARTS, ("weir", "p", (1, 1), "z", "q"))
        self.bad(4, *PARTS, ("divide", "p", (1, 2), "a", "z"))
        self.bad(4, *PARTS, ("divide", "p", (1, 2), "z", "in"))
        self.bad(4, *PARTS, ("join", "p", "q", "j"))
        self.bad(4, *PARTS, ("join", "p", "q", "t"))

    def test_two_new_channels_with_one_name(self):
        self.bad(0, ("weir", "in", (1, 1), "a", "a"))
        self.bad(0, ("divide", "in", (1, 2), "a", "a"))
        self.bad(4, *PARTS, ("weir", "q", (1, 1), "y", "y"))
        self.bad(4, *PARTS, ("divide", "q", (1, 2), "y", "y"))

    def test_the_first_of_two_is_told(self):
        self.bad(0, ("join", "in", "in", "a"), ("join", "x", "y", "z"))
        self.bad(1, PARTS[0], ("weir", "zz", (1, 1), "b", "c"), ("join", "zz", "zz", "z"))
        self.bad(3, *PARTS[:3], ("weir", "q", (1, 1), "b", "c"), ("weir", "in", (1, 1), "d", "e"), ("join", "p", "p", "p"))

    def test_what_fits_behind_another_one(self):
        for part in (("join", "q", "t", "z"), ("join", "t", "p", "b"), ("weir", "p", (0, 1), "b", "c"), ("divide", "t", (0, 1), "b", "c")):
            with self.subTest(part):
                self.same(Net((*PARTS, part)).parts, (*PARTS, part))

    def test_all_short_nets(self):
        names = ("in", "a", "b")
        parts = [("weir", one, (1, 1), to, rest) for one, to, rest in product(names, ("in", "a", "b", "c"), ("a", "b", "c"))]
        parts += [("join", one, other, to) for one, other, to in product(names, names, ("in", "a", "c", "d"))]
        for row in product(parts, parts):
            place = first_misfit(row)
            if place is None:
                self.assertEqual(Net(row).parts, row)
            else:
                with self.assertRaises(BadPart) as caught:
                    Net(row)
                self.assertEqual(caught.exception.place, place)


def first_misfit(row):
    """The place of the first PART that does not fit, word by word as [4] says."""
    had, taken = ["in"], []
    for place, part in enumerate(row):
        takes, makes = ([part[1]], [part[3], part[4]]) if part[0] != "join" else ([part[1], part[2]], [part[3]])
        for channel in takes:
            if channel not in had or channel in taken:
                return place
        if len(takes) == 2 and takes[0] == takes[1]:
            return place
        for channel in makes:
            if channel in had:
                return place
        if len(makes) == 2 and makes[0] == makes[1]:
            return place
        had += makes
        taken += takes
    return None


class OfTest(Case):

    def bad(self, piece, text):
        with self.subTest(text):
            self.refused(BadText, {"piece": piece}, Net.of, text)
            self.refused(BadText, {"piece": piece}, Net.of, text=text)

    def test_there_and_back(self):
        for text in ("-", "weir in 3 a r", "weir in 0 a r", "weir in 7/2 a r", "divide in 0 a r", "divide in 1 a r", "divide in 1/1000 a r",
                     TEXT, "weir in 1000000000000 a b; join a b c; divide c 2/3 d e", "weir in " + "9" * 40 + "/1" + "0" * 39 + " a b",
                     "weir in 1 weir join; join weir join divide"):
            with self.subTest(text):
                self.same(Net.of(text).text, text)
                self.assertTrue(Net.of(text=text) == Net(Net.of(text).parts))
        self.same(Net.of(TEXT).parts, PARTS)
        self.same(Net(PARTS).text, TEXT)

    def test_no_parts(self):
        self.same(Net.of("-").parts, ())

    def test_other_texts_of_no_parts(self):
        for text in ("", " ", "--", "- ", " -", "-\n", "-;", "- -", "none", "0", "in"):
            self.bad(0, text)
        self.bad(0, "-; ")
        self.bad(0, "-; -")
        self.bad(0, "-; weir in 3 a r")
        self.bad(1, "weir in 3 a r; -")
        self.bad(1, "weir in 3 a r; ")
        self.bad(0, "; ")
        self.bad(0, "; weir in 3 a r")
        self.bad(0, ";")
        self.bad(0, ";weir in 3 a r")

    def test_semicolons_and_blanks(self):
        self.bad(0, "weir in 3 a r;")
        self.bad(0, "weir in 3 a r;weir a 1 b c")
        self.bad(0, "weir in 3 a r;weir a 1 b c; weir r 1 d e")
        self.bad(0, "weir in 3 a r ; weir a 1 b c")
        self.bad(1, "weir in 3 a r;  weir a 1 b c")
        self.bad(1, "weir in 3 a r; weir a 1 b c ")
        self.bad(1, "weir in 3 a r; weir a  1 b c")
        self.bad(1, "weir in 3 a r; weir a 1 b c;")
        self.bad(2, "weir in 3 a r; weir a 1 b c; ")
        self.bad(1, "weir in 3 a r; ; weir a 1 b c")
        self.bad(0, "weir in 3 a r;; weir a 1 b c")
        self.bad(0, "weir in 3 a r;\nweir a 1 b c")
        self.bad(0, " weir in 3 a r")
        self.bad(0, "weir in 3 a r ")
        self.bad(0, "weir  in 3 a r")
        self.bad(0, "weir\tin 3 a r")
        self.bad(0, "weir in 3 a r\n")
        self.bad(0, "weir in 3 a r, weir a 1 b c")

    def test_pieces_that_are_no_parts(self):
        for piece in ("weir in 2/4 a r", "weir in 3/1 a r", "weir in 03 a r", "weir in -3 a r", "weir in 1/0 a r", "weir in 3 A r",
                      "weir in 3 abcdefghi r", "weir in 3 a", "weir in 3 a r x", "divide in 3/2 a r", "divide in 2 a r", "join in a", "Weir in 3 a r",
                      "weir in \u0663 a r", "weir in 3 \u00e9 r"):
            self.bad(0, piece)
            self.bad(0, piece + "; weir in 3 a r")
        for piece in ("weir r 2/4 c d", "weir r 03 c d", "divide r 3/2 c d", "join a r", "weir r 3 c D", "weir r 3 c abcdefghi", "weir r 3 c"):
            self.bad(1, "weir in 3 a r; " + piece)
            self.bad(1, "weir in 3 a r; " + piece + "; weir a 1 x y")

    def test_pieces_that_do_not_fit(self):
        self.bad(0, "weir a 3 b c")
        self.bad(0, "join in in a")
        self.bad(0, "weir in 3 a a")
        self.bad(0, "divide in 1/2 in a")
        self.bad(1, "weir in 3 a r; weir in 3 b c")
        self.bad(1, "weir in 3 a r; join a a b")
        self.bad(1, "weir in 3 a r; join a in b")
        self.bad(1, "weir in 3 a r; join a r in")
        self.bad(1, "weir in 3 a r; divide r 1/2 s s")
        self.bad(1, "weir in 3 a r; divide r 1/2 s a")
        self.bad(4, TEXT + "; weir a 1 y z")

    def test_the_first_of_two_wrong_pieces_is_told(self):
        self.bad(1, "weir in 3 a r; weir zz 1 b c; weir a 2/4 b c")
        self.bad(1, "weir in 3 a r; weir a 2/4 b c; weir zz 1 b c")
        self.bad(0, "weir zz 3 a r; weir a 2/4 b c")
        self.bad(0, "weir in 2/4 a r; weir a 2 b c")
        self.bad(2, "weir in 3 a r; weir a 1 b c; weir b 1 c d; x; weir in 1 y z")


class IsPartTest(Case):

    def test_parts(self):
        for part in (*PARTS, ("weir", "a", (0, 1), "b", "c"), ("weir", "a", (7, 2), "b", "c"), ("weir", "a", (WIDE, WIDE + 1), "b", "c"),
                     ("divide", "a", (0, 1), "b", "c"), ("divide", "a", (1, 1), "b", "c"), ("divide", "a", (WIDE, WIDE + 1), "b", "c"),
                     ("join", "a", "a", "a"), ("weir", "a", (1, 1), "a", "a"), ("divide", "in", (1, 2), "in", "in"),
                     ("join", "abcdefgh", "z", "in"), ("join", "join", "weir", "divide")):
            with self.subTest(part):
                self.assertIs(is_part(part), True)
                self.assertIs(is_part(thing=part), True)
                self.assertIs(is_part(list(part)), False)
                self.assertIs(is_part(listed(part)), False)

    def test_a_list_for_the_pair(self):
        self.assertIs(is_part(("weir", "a", [3, 1], "b", "c")), False)
        self.assertIs(is_part(("divide", "a", [1, 2], "b", "c")), False)

    def test_odd_things(self):
        for thing in ODD_THINGS:
            with self.subTest(thing=thing):
                self.assertIs(is_part(thing), False)

    def test_an_odd_thing_at_each_place(self):
        for part in (("weir", "a", (3, 1), "b", "c"), ("divide", "a", (1, 2), "b", "c"), ("join", "a", "b", "c")):
            for place in range(len(part)):
                for thing in (*ODD_THINGS, "A", "abcdefghi", "a1", "a ", "\u00e9"):
                    if thing == "in" and place > 0 and part[place] not in ((3, 1), (1, 2)):
                        continue
                    with self.subTest(part=part, place=place, thing=thing):
                        self.assertIs(is_part((*part[:place], thing, *part[place + 1:])), False)

    def test_amounts_and_shares(self):
        for pair in ((2, 4), (0, 2), (3, 3), (-1, 1), (-1, 2), (1, 0), (0, 0), (1, -1), (-1, -1), (1,), (1, 2, 3), (), (True, 1), (1, True), (True, True),
                     (False, 1), (None, 1), (1, None), ("1", 1), (1, "1"), ("1", "2"), ((1, 1), 1), (1, (1,)), (WIDE, WIDE), (2 * WIDE, 2 * WIDE + 2),
                     "12", "1/2", 1, 3, None):
            for word in ("weir", "divide"):
                with self.subTest(word=word, pair=pair):
                    self.assertIs(is_part((word, "a", pair, "b", "c")), False)
        for pair in ((2, 1), (3, 2), (WIDE, 1), (WIDE + 1, WIDE)):
            self.assertIs(is_part(("weir", "a", pair, "b", "c")), True)
            self.assertIs(is_part(("divide", "a", pair, "b", "c")), False)

    def test_words_and_lengths(self):
        for thing in (("weir", "a", (3, 1), "b"), ("weir", "a", (3, 1), "b", "c", "d"), ("weir", "a", "b", "c"), ("weir", "a", "b", (3, 1), "c"),
                      ("weir", "a", "b", "c", "d"), ("divide", "a", "b", "c"), ("divide", "a", (1, 2), "b"), ("join", "a", "b"), ("join", "a", "b", "c", "d"),
                      ("join", "a", (1, 2), "b", "c"), ("join", "a", "b", (1, 2)), ("joins", "a", "b", "c"), ("Join", "a", "b", "c"), ("a", "b", "c", "d"),
                      ("wei", "a", (3, 1), "b", "c"), ("part", "a", (1, 2), "b", "c"), (None, "a", (1, 2), "b", "c"), ("", "a", (1, 2), "b", "c"),
                      (("join", "a", "b", "c"),), PARTS):
            with self.subTest(thing):
                self.assertIs(is_part(thing), False)

    def test_what_is_asked_about_stays(self):
        thing = ("weir", "a", [3, 1], ["b"], [])
        is_part(thing)
        self.same(thing, ("weir", "a", [3, 1], ["b"], []))


class PlacesTest(Case):

    def test_all_channels(self):
        net = Net(PARTS)
        made = {"in": None, "a": 0, "r": 0, "s": 1, "t": 1, "j": 2, "p": 3, "q": 3}
        taken = {"in": 0, "r": 1, "a": 2, "s": 2, "j": 3, "p": None, "q": None, "t": None}
        for channel in net.channels:
            with self.subTest(channel):
                self.same(made_by(net, channel), made[channel])
                self.same(made_by(net=net, channel=channel), made[channel])
                self.same(taken_by(net, channel), taken[channel])
                self.same(taken_by(net=net, channel=channel), taken[channel])

    def test_the_net_without_parts(self):
        self.same((made_by(Net(), "in"), taken_by(Net(), "in")), (None, None))

    def test_words_of_parts_are_no_channels(self):
        net = Net(PARTS)
        for name in ("weir", "divide", "join", "zz", "b", "aa", "abcdefgh"):
            with self.subTest(name):
                self.refused(NoChannel, {"name": name}, made_by, net, name)
                self.refused(NoChannel, {"name": name}, made_by, net=net, channel=name)
                self.refused(NoChannel, {"name": name}, taken_by, net, name)
                self.refused(NoChannel, {"name": name}, taken_by, net=net, channel=name)
        self.refused(NoChannel, {"name": "a"}, made_by, Net(), "a")
        self.refused(NoChannel, {"name": "a"}, taken_by, Net(), "a")

    def test_channels_that_are_called_as_parts_are(self):
        net = Net.of("weir in 1 weir join; join weir join divide")
        self.same((made_by(net, "weir"), made_by(net, "join"), made_by(net, "divide")), (0, 0, 1))
        self.same((taken_by(net, "weir"), taken_by(net, "join"), taken_by(net, "divide")), (1, 1, None))


class WithPartTest(Case):

    def test_one_part_more(self):
        net = Net()
        for number, part in enumerate(PARTS):
            for more in (with_part(net, part), with_part(net, listed(part)), with_part(net=net, part=part)):
                self.same(more.parts, PARTS[:number + 1])
            self.same(net.parts, PARTS[:number])
            net = more
        self.assertTrue(net == Net(PARTS))

    def test_what_is_handed_in_stays_and_is_copied(self):
        part = ["weir", "in", [3, 1], "a", "r"]
        net = with_part(Net(), part)
        self.same(part, ["weir", "in", [3, 1], "a", "r"])
        part[2][0] = 9
        part[3] = "b"
        self.same(net.parts, PARTS[:1])
        self.same(net.outlets, ("a", "r"))


class FirstPartsTest(Case):

    def test_all_numbers(self):
        net = Net(PARTS)
        for number in range(5):
            with self.subTest(number):
                self.same(first_parts(net, number).parts, PARTS[:number])
                self.same(first_parts(net=net, number=number).parts, PARTS[:number])
        self.same(net.parts, PARTS)
        self.same(first_parts(Net(), 0).parts, ())

    def test_wrong_numbers(self):
        for number in (-1, -2, -4, -5, 5, 6, WIDE, -WIDE):
            with self.subTest(number):
                self.refused(NoPlace, {"number": number}, first_parts, Net(PARTS), number)
                self.refused(NoPlace, {"number": number}, first_parts, net=Net(PARTS), number=number)
        self.refused(NoPlace, {"number": 1}, first_parts, Net(), 1)
        self.refused(NoPlace, {"number": -1}, first_parts, Net(), -1)


class RenamedTest(Case):

    def test_each_channel(self):
        net = Net(PARTS)
        for channel in net.channels:
            if channel == "in":
                continue
            with self.subTest(channel):
                pieces = [["new" if word == channel else word for word in piece.split(" ")] for piece in TEXT.split("; ")]
                text = "; ".join(" ".join(words) for words in pieces)
                for other in (renamed(net, channel, "new"), renamed(net=net, one=channel, new="new")):
                    self.same(other.text, text)
                    self.same(other.channels, tuple(sorted([name for name in net.channels if name != channel] + ["new"])))
                    self.same(len(other), 4)
                    self.assertTrue(renamed(other, "new", channel) == net)
        self.same(net.text, TEXT)

    def test_parts_are_told_by_their_words_still(self):
        net = Net.of("weir in 1 weir join; divide weir 1/2 divide r; join join divide t")
        self.same(renamed(net, "weir", "a").text, "weir in 1 a join; divide a 1/2 divide r; join join divide t")
        self.same(renamed(net, "join", "a").text, "weir in 1 weir a; divide weir 1/2 divide r; join a divide t")
        self.same(renamed(net, "divide", "a").text, "weir in 1 weir join; divide weir 1/2 a r; join join a t")
        self.same(renamed(Net(PARTS), "a", "weir").text, "weir in 3 weir r; divide r 1/2 s t; join weir s j; weir j 5 p q")
        self.same(renamed(Net(PARTS), "s", "join").text, "weir in 3 a r; divide r 1/2 join t; join a join j; weir j 5 p q")

    def test_no_channel(self):
        net = Net(PARTS)
        for one in ("in", "zz", "weir", "join", "divide"):
            for new in ("new", "a", "in", one):
                with self.subTest(one=one, new=new):
                    self.refused(NoChannel, {"name": one}, renamed, net, one, new)
                    self.refused(NoChannel, {"name": one}, renamed, net=net, one=one, new=new)
        self.refused(NoChannel, {"name": "in"}, renamed, Net(), "in", "a")
        self.refused(NoChannel, {"name": "a"}, renamed, Net(), "a", "in")

    def test_known(self):
        net = Net(PARTS)
        for one in net.channels:
            for new in net.channels:
                if one != "in":
                    with self.subTest(one=one, new=new):
                        self.refused(Known, {"name": new}, renamed, net, one, new)
                        self.refused(Known, {"name": new}, renamed, net=net, one=one, new=new)
        self.same(net.text, TEXT)


class RoundTest(Case):

    def test_what_is_returned_may_be_passed_in(self):
        net = Net(Net.of(Net(PARTS).text).parts)
        self.assertTrue(net == Net(PARTS))
        self.same(tupled(listed(net.parts)), net.parts)
        for part in net.parts:
            self.assertIs(is_part(part), True)
        for channel in net.channels:
            made_by(net, channel)


if __name__ == "__main__":
    unittest.main()
