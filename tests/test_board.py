"""[20]: a board of nets."""

import random
import unittest

from layernets.alike import alike
from layernets.board import Board
from layernets.errors import BadPart, FlowError, Known, NoNet, NoPlace, NothingDone
from layernets.nets import Net, with_part
from tests.support import LIMITS, Case, layers, listed, outflow, pair, some_net, some_nets

DITCH, BROOK = Net.of("weir in 3 a r"), Net.of("weir in 2 a b")
NAMES = ("ditch", "brook", "creek", "x", "in")


def seen(board):
    """All that can be seen of a Board."""
    return [(name, board[name].parts) for name in board.names], len(board), board.deeds, [name in board for name in NAMES]


def two():
    """A Board with two Nets."""
    board = Board()
    board.put("ditch", DITCH)
    board.put("brook", BROOK)
    return board


class ExamplesTest(Case):

    def test_board(self):
        board = Board()
        self.same((board.put("ditch", DITCH), board.put("brook", BROOK), board.names, len(board), board.deeds), (None, None, ("brook", "ditch"), 2, 2))
        self.same((board.flow("ditch", (5, 1)), board.table("brook"), board.alike("ditch", "brook"), board.limit("brook", 0, (3, 1)), board.alike("ditch", "brook"),
                   board.rename("brook", "creek"), board.lay("creek", ("weir", "b", (0, 1), "c", "r"))),
                  ((("a", (3, 1)), ("r", (2, 1))), (((2, 1), (("a", (1, 1)),)), (None, (("b", (1, 1)),))), False, None, False, None, None))
        self.same((board.alike("ditch", "creek"), board["creek"].text, board.flow("creek", (4, 1)), board.lift("creek"), board["creek"].text),
                  (True, "weir in 3 a b; weir b 0 c r", (("a", (3, 1)), ("c", (0, 1)), ("r", (1, 1))), None, "weir in 3 a b"))
        copy = board.twin()
        self.same((board.undo(), board["creek"].text, copy == board, copy.deeds, board.deeds), (None, "weir in 3 a b; weir b 0 c r", False, 0, 5))
        self.same((board.drop("ditch"), board.names, board.undo(), board.names), (None, ("creek",), None, ("creek", "ditch")))
        self.refused(BadPart, {"place": 1}, board.lay, "ditch", ("join", "a", "a", "c"))
        self.refused(NoPlace, {"number": 1}, board.limit, "ditch", 1, (1, 1))
        self.refused(NoNet, {"name": "brook"}, board.alike, "ditch", "brook")


class DeedsTest(Case):

    def test_at_first(self):
        self.same(seen(Board()), ([], 0, 0, [False] * 5))
        self.same(Board().names, ())

    def test_each_deed_by_position_and_by_names(self):
        deeds = (
            ("put", {"name": "x", "net": Net()}, [("brook", BROOK), ("ditch", DITCH), ("x", Net())]),
            ("drop", {"name": "ditch"}, [("brook", BROOK)]),
            ("rename", {"name": "ditch", "new": "x"}, [("brook", BROOK), ("x", DITCH)]),
            ("lay", {"name": "ditch", "part": ("join", "r", "a", "x")}, [("brook", BROOK), ("ditch", Net.of("weir in 3 a r; join r a x"))]),
            ("lay", {"name": "ditch", "part": ("weir", "r", (1, 2), "x", "y")}, [("brook", BROOK), ("ditch", Net.of("weir in 3 a r; weir r 1/2 x y"))]),
            ("lift", {"name": "brook"}, [("brook", Net()), ("ditch", DITCH)]),
            ("limit", {"name": "brook", "place": 0, "limit": (7, 2)}, [("brook", Net.of("weir in 7/2 a b")), ("ditch", DITCH)]),
        )
        for deed, named, wanted in deeds:
            for given in (named, {name: listed(value) for name, value in named.items()}):
                for by_names in (False, True):
                    with self.subTest(deed=deed, given=given, by_names=by_names):
                        board, before = two(), repr([value for value in given.values() if not isinstance(value, Net)])
                        call = getattr(board, deed)
                        self.same(call(**given) if by_names else call(*given.values()), None)
                        self.same([(name, board[name]) for name in board.names], wanted)
                        self.same((board.deeds, len(board)), (3, len(wanted)))
                        self.same(repr([value for value in given.values() if not isinstance(value, Net)]), before)
                        self.same((board.undo(), board.deeds, board == two()), (None, 2, True))

    def test_a_deed_that_changes_nothing_is_one(self):
        board = two()
        self.same(board.limit("ditch", 0, (3, 1)), None)
        self.same((board.deeds, board == two()), (3, True))
        board.undo()
        self.same((board.deeds, board == two()), (2, True))

    def test_undo_back_to_the_beginning_and_on(self):
        board = two()
        self.same((board.undo(), board.names, board.deeds), (None, ("ditch",), 1))
        self.same((board.undo(), board.names, board.deeds), (None, (), 0))
        for _ in range(2):
            self.refused(NothingDone, {}, board.undo)
            self.same(seen(board), seen(Board()))
        # An undo is no deed: what is done behind it is undone alone.
        board.put("x", BROOK)
        self.same((board.names, board.deeds), (("x",), 1))
        board.drop("x")
        self.same((board.undo(), board.names, board.deeds), (None, ("x",), 1))
        board.rename("x", "ditch")
        self.same((board.names, board.deeds), (("ditch",), 2))
        self.same((board.undo(), board.names, board.undo(), board.names), (None, ("x",), None, ()))

    def test_a_name_that_was_dropped_is_free(self):
        board = two()
        board.drop("ditch")
        board.put("ditch", BROOK)
        board.rename("ditch", "creek")
        board.put("ditch", DITCH)
        self.same(board.names, ("brook", "creek", "ditch"))
        for _ in range(4):
            board.undo()
        self.assertTrue(board == two())

    def test_one_net_under_two_names(self):
        board = Board()
        board.put("x", DITCH)
        board.put("in", DITCH)
        board.limit("x", 0, (9, 1))
        board.lift("x")
        self.same(board["in"], DITCH)
        self.same(board["x"], Net())
        self.same(DITCH.text, "weir in 3 a r")

    def test_what_is_handed_in_may_change(self):
        board, part, limit = two(), listed(("weir", "r", (1, 2), "x", "y")), [4, 1]
        board.lay("ditch", part)
        board.limit("brook", 0, limit)
        part[2][0], part[0], limit[0] = 9, "divide", 8
        self.same((board["ditch"].text, board["brook"].text), ("weir in 3 a r; weir r 1/2 x y", "weir in 4 a b"))

    def test_sixty_deeds(self):
        board, seens = Board(), []
        for number in range(20):
            seens.append(seen(board))
            board.put("abcdefghijklmnopqrst"[number], Net((("weir", "in", (number, 1), "a", "b"),)))
        for number in range(20):
            seens.append(seen(board))
            board.limit("abcdefghijklmnopqrst"[number], 0, (number, 7) if number % 7 else (1, 7))
        for number in range(20):
            seens.append(seen(board))
            board.lift("abcdefghijklmnopqrst"[number])
        self.same((board.deeds, len(board)), (60, 20))
        while seens:
            self.same(board.undo(), None)
            self.same(seen(board), seens.pop())


class RefusedTest(Case):

    def refuses_deed(self, error, kept, deed, **named):
        """The deed is refused, by position and by names and with lists, and nothing changes."""
        board = two()
        board.lay("brook", ("divide", "b", (1, 2), "c", "d"))
        before = repr(seen(board))
        self.refuses(error, kept, getattr(board, deed), **named)
        self.assertEqual(repr(seen(board)), before)
        self.same(board.undo(), None)
        self.assertTrue(board == two())

    def test_put(self):
        for net in (DITCH, BROOK, Net()):
            self.refuses_deed(Known, {"name": "ditch"}, "put", name="ditch", net=net)

    def test_drop_and_lift(self):
        for name in ("x", "creek", "in", "a"):
            self.refuses_deed(NoNet, {"name": name}, "drop", name=name)
            self.refuses_deed(NoNet, {"name": name}, "lift", name=name)

    def test_lift_without_parts(self):
        board = Board()
        board.put("x", Net())
        self.refuses(NoPlace, {"number": 0}, board.lift, name="x")
        self.same(seen(board), ([("x", ())], 1, 1, [False, False, False, True, False]))

    def test_rename(self):
        for new in ("ditch", "brook", "x", "y"):
            self.refuses_deed(NoNet, {"name": "x"}, "rename", name="x", new=new)
        for name in ("ditch", "brook"):
            for new in ("ditch", "brook"):
                self.refuses_deed(Known, {"name": new}, "rename", name=name, new=new)

    def test_lay(self):
        for part in (("join", "a", "a", "c"), ("join", "a", "r", "x"), ("weir", "in", (1, 1), "x", "y")):
            self.refuses_deed(NoNet, {"name": "x"}, "lay", name="x", part=part)
        for part in (("join", "a", "a", "c"), ("join", "a", "x", "c"), ("weir", "in", (1, 1), "x", "y"), ("weir", "r", (1, 1), "x", "x"), ("divide", "r", (1, 2), "a", "x")):
            self.refuses_deed(BadPart, {"place": 1}, "lay", name="ditch", part=part)
        self.refuses_deed(BadPart, {"place": 2}, "lay", name="brook", part=("join", "b", "a", "x"))

    def test_limit(self):
        for place in (-1, 0, 1, 10 ** 30):
            self.refuses_deed(NoNet, {"name": "x"}, "limit", name="x", place=place, limit=(1, 1))
        for name, places in (("ditch", (-1, -2, 1, 2, 10 ** 30)), ("brook", (-1, -2, -10 ** 30, 1, 2))):
            for place in places:
                self.refuses_deed(NoPlace, {"number": place}, "limit", name=name, place=place, limit=(1, 1))

    def test_questions(self):
        self.refuses_deed(NoNet, {"name": "x"}, "flow", name="x", inflow=(1, 1))
        self.refuses_deed(NoNet, {"name": "x"}, "table", name="x")
        self.refuses_deed(NoNet, {"name": "x"}, "alike", name="x", to="ditch")
        self.refuses_deed(NoNet, {"name": "x"}, "alike", name="x", to="y")
        self.refuses_deed(NoNet, {"name": "y"}, "alike", name="ditch", to="y")
        self.refuses_deed(NoNet, {"name": "x"}, "alike", name="x", to="x")

    def test_brackets(self):
        for board in (Board(), two()):
            for name in ("x", "in", "creek"):
                self.refused(NoNet, {"name": name}, lambda: board[name])
                self.assertIs(name in board, False)
                self.assertIs(name not in board, True)

    def test_no_setters(self):
        board = two()
        for name in ("names", "deeds"):
            with self.assertRaises(AttributeError):
                setattr(board, name, getattr(board, name))

    def test_no_iteration(self):
        for board in (Board(), two()):
            for call in (iter, list, tuple, sorted, set, dict, enumerate, lambda some: [None for _ in some], lambda some: [*some]):
                with self.assertRaises(TypeError):
                    call(board)


class QuestionsTest(Case):

    def test_behind_each_kind_of_deed(self):
        board = two()

        def asks(name):
            self.told(tuple(sorted((outlet, pair(outflow(board[name], 5).get(outlet, 0))) for outlet in board[name].outlets)), board.flow, name=name, inflow=(5, 1))
            self.told(layers(board[name]), board.table, name=name)
            for to in board.names:
                self.told(layers(board[name]) == layers(board[to]), board.alike, name=name, to=to)

        steps = (("put", "x", Net.of("divide in 1/2 a r; join a r x")), ("rename", "x", "creek"), ("limit", "ditch", 0, (2, 1)), ("drop", "creek"), ("lay", "brook", ("join", "a", "b", "x")),
                 ("lay", "ditch", ("join", "r", "a", "x")), ("lift", "ditch"), ("put", "x", Net()))
        for deed, *args in steps:
            getattr(board, deed)(*args)
            for name in board.names:
                asks(name)
        for _ in steps:
            before = board.deeds
            board.undo()
            self.same(board.deeds, before - 1)
            for name in board.names:
                asks(name)
        self.assertTrue(board == two())

    def test_questions_are_no_deeds(self):
        board = two()
        board.flow("ditch", (5, 1)), board.table("ditch"), board.alike("ditch", "brook"), board["ditch"], board.twin(), board.names
        self.same(board.deeds, 2)


class TwinTest(Case):

    def test_twin(self):
        board = two()
        mate = board.twin()
        self.assertIsNot(mate, board)
        self.assertIs(type(mate), Board)
        self.same((mate == board, mate != board, mate.deeds, board.deeds), (True, False, 0, 2))
        self.same(seen(mate)[0], seen(board)[0])
        self.refused(NothingDone, {}, mate.undo)

    def test_nothing_is_shared_either_way(self):
        for turned in (False, True):
            board = two()
            mate = board.twin()
            one, other = (mate, board) if turned else (board, mate)
            before = repr(seen(other))
            one.put("x", Net())
            one.limit("ditch", 0, (9, 1))
            one.lay("brook", ("join", "a", "b", "c"))
            one.rename("brook", "creek")
            one.drop("ditch")
            self.assertEqual(repr(seen(other)), before)
            for _ in range(5):
                one.undo()
            self.assertTrue(one == other)
            other.drop("brook")
            self.assertFalse(one == other)
            self.same(one.names, ("brook", "ditch"))

    def test_an_empty_twin(self):
        self.assertTrue(Board().twin() == Board())


class EqualTest(Case):

    def test_whatever_deeds_can_be_undone(self):
        one, other = two(), Board()
        other.put("brook", DITCH)
        other.put("x", DITCH)
        other.rename("x", "ditch")
        self.assertFalse(one == other)
        other.limit("brook", 0, (2, 1))
        self.assertFalse(one == other)
        other.drop("brook")
        self.assertFalse(one == other)
        other.put("brook", BROOK)
        self.assertTrue(one == other)
        self.assertTrue(other == one)
        self.assertFalse(one != other)
        self.assertNotEqual(one.deeds, other.deeds)
        self.assertTrue(Board() == Board())

    def test_nets_that_are_alike_are_not_equal(self):
        one, other = Board(), Board()
        one.put("x", Net.of("weir in 3 a b; join a b p"))
        other.put("x", Net.of("weir in 4 a b; join a b p"))
        self.assertFalse(one == other)
        self.assertTrue(one != other)

    def test_other_things(self):
        board = two()
        for thing in (None, 0, "ditch", (), [], {}, {"ditch": DITCH, "brook": BROOK}, board.names, DITCH, object()):
            self.assertIs(board == thing, False)
            self.assertIs(thing == board, False)
            self.assertIs(board != thing, True)


class ManyDeedsTest(Case):

    def test_many_deeds(self):
        chance = random.Random(101)
        for round_number in range(25):
            board, states = Board(), [{}]
            for _ in range(60):
                deed, args, after = self.next_deed(chance, states[-1])
                if chance.random() < 0.2:
                    deed, args = "undo", ()
                before = repr(seen(board))
                try:
                    self.same(getattr(board, deed)(*args), None)
                except FlowError as error:
                    if deed == "undo":
                        self.same((type(error), len(states)), (NothingDone, 1))
                    else:
                        self.same((type(error), tuple(vars(error).values())), after)
                    self.assertEqual(repr(seen(board)), before)
                else:
                    if deed == "undo":
                        states.pop()
                    else:
                        self.assertIsInstance(after, dict, (deed, args))
                        states.append(after)
                now = states[-1]
                self.same([(name, board[name]) for name in board.names], sorted(now.items(), key=lambda item: item[0]))
                self.same((board.deeds, len(board), [name in board for name in NAMES]), (len(states) - 1, len(now), [name in now for name in NAMES]))

    def next_deed(self, chance, now):
        """A deed, its arguments, and the Nets behind it, or the error and what it keeps."""
        name, new = chance.choice(NAMES), chance.choice(NAMES)
        deed = chance.choice(("put", "put", "drop", "rename", "lay", "lay", "lift", "limit"))
        after, net = dict(now), now.get(name)
        if deed == "put":
            after[name] = chance.choice((DITCH, BROOK, Net(), some_nets(8, 102)[chance.randrange(8)]))
            return deed, (name, after[name]), (Known, (name,)) if name in now else after
        if deed == "rename":
            if name in now and new not in now:
                after[new] = after.pop(name)
                return deed, (name, new), after
            return deed, (name, new), (Known, (new,)) if name in now else (NoNet, (name,))
        args = (name,)
        if deed == "lay":
            part = some_net(chance, 1).parts[0]
            args = (name, (part[0], chance.choice(net.outlets if net else ("in",)), *part[2:]))
        if deed == "limit":
            args = (name, chance.randrange(-1, 4), chance.choice(LIMITS))
        if net is None:
            return deed, args, (NoNet, (name,))
        if deed == "drop":
            del after[name]
        if deed == "lay":
            try:
                after[name] = with_part(net, args[1])
            except BadPart:
                return deed, args, (BadPart, (len(net),))
        if deed == "lift":
            if not len(net):
                return deed, args, (NoPlace, (0,))
            after[name] = Net(net.parts[:-1])
        if deed == "limit":
            place = args[1]
            if not 0 <= place < len(net) or net.parts[place][0] != "weir":
                return deed, args, (NoPlace, (place,))
            part = net.parts[place]
            after[name] = Net((*net.parts[:place], (part[0], part[1], args[2], *part[3:]), *net.parts[place + 1:]))
        return deed, args, after

    def test_alike_as_of_the_nets(self):
        nets = some_nets(20, 103, 5)
        board = Board()
        for number, net in enumerate(nets):
            board.put("abcdefghijklmnopqrst"[number], net)
        for one in board.names:
            for other in board.names:
                self.same(board.alike(one, other), alike(board[one], board[other]))


if __name__ == "__main__":
    unittest.main()
