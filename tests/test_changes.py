"""[14]: a Net that changes."""

import random
import unittest

from layernets.changes import Watch
from layernets.errors import BadPart, FlowError, NoPlace, NothingDone
from layernets.moves import limit_changed
from layernets.nets import Net, first_parts, with_part
from layernets.tables import table_of
from tests.support import LIMITS, Case, layers, listed, some_net, some_nets

A_R = (((3, 1), (("a", (1, 1)),)), (None, (("r", (1, 1)),)))
JOINED = ((None, (("j", (1, 1)),)),)
HALF = (((1, 2), (("a", (1, 1)),)), (None, (("r", (1, 1)),)))


def state(watch):
    """All that can be seen of a Watch."""
    return (watch.net, watch.told, len(watch))


def example():
    """The Watch of the document, behind its first three deeds."""
    watch = Watch(Net.of("weir in 3 a r"))
    watch.lay(("join", "a", "r", "j"))
    watch.lift()
    watch.limit(0, (1, 2))
    return watch


class ExamplesTest(Case):

    def test_deeds(self):
        watch = Watch(Net.of("weir in 3 a r"))
        self.same((watch.told, watch.lay(("join", "a", "r", "j")), watch.net.text, len(watch)), ((A_R,), JOINED, "weir in 3 a r; join a r j", 1))
        self.same((watch.lift(), watch.limit(0, (1, 2)), watch.net.text, watch.back(), watch.net.text, len(watch)),
                  (A_R, HALF, "weir in 1/2 a r", None, "weir in 3 a r", 2))
        mate = watch.twin()
        self.same((mate == watch, mate.back(), mate == watch, mate.net.text, len(watch.told)), (True, None, False, "weir in 3 a r; join a r j", 3))
        self.refused(NoPlace, {"number": 1}, watch.limit, 1, (1, 1))


class DeedsTest(Case):

    def test_at_the_beginning(self):
        for net in some_nets(40, 51):
            watch = Watch(net)
            self.same(state(watch), (net, (layers(net),), 0))
            self.same(state(Watch(net=net)), state(watch))

    def test_all_deeds(self):
        watch = example()
        self.same(state(watch), (Net.of("weir in 1/2 a r"), (A_R, JOINED, A_R, HALF), 3))

    def test_by_names_and_with_lists(self):
        for part in (("join", "a", "r", "j"), ["join", "a", "r", "j"]):
            watch = Watch(Net.of("weir in 3 a r"))
            self.same(watch.lay(part=part), JOINED)
        for part in (("weir", "r", (2, 1), "b", "c"), listed(("weir", "r", (2, 1), "b", "c"))):
            watch = Watch(Net.of("weir in 3 a r"))
            before = repr(part)
            self.same(watch.lay(part), (((3, 1), (("a", (1, 1)),)), ((5, 1), (("b", (1, 1)),)), (None, (("c", (1, 1)),))))
            self.same(repr(part), before)
        for limit in ((1, 2), [1, 2]):
            watch = Watch(Net.of("weir in 3 a r"))
            self.same(watch.limit(place=0, limit=limit), HALF)
            self.same(watch.net, Net.of("weir in 1/2 a r"))
            self.same(limit, type(limit)((1, 2)))

    def test_what_is_handed_in_may_change(self):
        watch = Watch(Net.of("weir in 3 a r"))
        part, limit = listed(("weir", "r", (2, 1), "b", "c")), [4, 1]
        watch.lay(part)
        watch.limit(0, limit)
        before = repr(state(watch)[1:])
        part[0], part[2][0], limit[0] = "divide", 9, 7
        self.same(watch.net, Net.of("weir in 4 a r; weir r 2 b c"))
        self.same(repr(state(watch)[1:]), before)

    def test_what_is_told_does_not_change(self):
        watch = example()
        told, net = watch.told, watch.net
        watch.back()
        watch.lay(("divide", "a", (1, 3), "x", "y"))
        self.same(told, (A_R, JOINED, A_R, HALF))
        self.same(net, Net.of("weir in 1/2 a r"))

    def test_a_deed_that_changes_nothing_is_one(self):
        watch = Watch(Net.of("weir in 3 a r"))
        self.same(watch.limit(0, (3, 1)), A_R)
        self.same(state(watch), (Net.of("weir in 3 a r"), (A_R, A_R), 1))
        self.same(watch.back(), None)
        self.same(len(watch), 0)

    def test_back_to_the_beginning_and_on(self):
        watch = example()
        for told, text in (((A_R, JOINED, A_R), "weir in 3 a r"), ((A_R, JOINED), "weir in 3 a r; join a r j"), ((A_R,), "weir in 3 a r")):
            self.same(watch.back(), None)
            self.same(state(watch), (Net.of(text), told, len(told) - 1))
        for _ in range(2):
            self.refused(NothingDone, {}, watch.back)
            self.same(state(watch), (Net.of("weir in 3 a r"), (A_R,), 0))
        self.same(watch.lift(), ((None, (("in", (1, 1)),)),))
        self.same(watch.net, Net())
        self.same(watch.back(), None)
        self.same(state(watch), (Net.of("weir in 3 a r"), (A_R,), 0))

    def test_lift_to_the_end(self):
        watch = Watch(Net.of("weir in 3 a r; join a r j"))
        self.same((watch.lift(), watch.lift()), (A_R, ((None, (("in", (1, 1)),)),)))
        self.refused(NoPlace, {"number": 0}, watch.lift)
        self.same(len(watch), 2)
        self.same(watch.lay(("weir", "in", (3, 1), "a", "r")), A_R)
        self.refused(NoPlace, {"number": 0}, Watch(Net()).lift)


class RefusedTest(Case):

    def refuses_deed(self, watch, error, kept, call, *args, **named):
        before = repr(watch.net.parts), repr(watch.told), len(watch)
        self.refused(error, kept, call, *args, **named)
        self.assertEqual((repr(watch.net.parts), repr(watch.told), len(watch)), before)

    def test_lay(self):
        for watch in (example(), Watch(Net.of("weir in 1/2 a r"))):
            for part in (("join", "a", "a", "j"), ("join", "a", "x", "j"), ("weir", "in", (1, 1), "b", "c"), ("weir", "a", (1, 1), "b", "b"), ("divide", "a", (1, 2), "r", "c"),
                         ("divide", "a", (1, 2), "a", "c"), ("join", "a", "r", "in"), ("weir", "j", (1, 1), "b", "c")):
                self.refuses_deed(watch, BadPart, {"place": 1}, watch.lay, part)
                self.refuses_deed(watch, BadPart, {"place": 1}, watch.lay, listed(part))
                self.refuses_deed(watch, BadPart, {"place": 1}, watch.lay, part=part)
        empty = Watch(Net())
        self.refuses_deed(empty, BadPart, {"place": 0}, empty.lay, ("weir", "a", (1, 1), "b", "c"))

    def test_limit(self):
        watch = example()
        watch.lay(("divide", "r", (1, 2), "s", "t"))
        for place in (-1, -2, 1, 2, 3, 10 ** 30, -10 ** 30):
            for limit in ((0, 1), [5, 1], (1, 2)):
                self.refuses_deed(watch, NoPlace, {"number": place}, watch.limit, place, limit)
                self.refuses_deed(watch, NoPlace, {"number": place}, watch.limit, place=place, limit=limit)
        empty = Watch(Net())
        for place in (-1, 0, 1):
            self.refuses_deed(empty, NoPlace, {"number": place}, empty.limit, place, (1, 1))

    def test_lift_and_back(self):
        watch = Watch(Net())
        self.refuses_deed(watch, NoPlace, {"number": 0}, watch.lift)
        self.refuses_deed(watch, NothingDone, {}, watch.back)

    def test_no_setters(self):
        watch = example()
        for name in ("net", "told"):
            with self.assertRaises(AttributeError):
                setattr(watch, name, getattr(watch, name))


class TwinTest(Case):

    def test_the_same_deeds(self):
        watch = example()
        mate = watch.twin()
        self.assertIsNot(mate, watch)
        self.assertIs(type(mate), Watch)
        self.same(state(mate), state(watch))
        while len(watch):
            self.same((mate == watch, mate.back(), watch.back(), mate == watch), (True, None, None, True))
            self.same(state(mate), state(watch))
        self.refused(NothingDone, {}, mate.back)

    def test_nothing_is_shared_either_way(self):
        for turned in (False, True):
            watch = example()
            one, other = (watch.twin(), watch) if turned else (watch, watch.twin())
            before = repr((other.net.parts, other.told, len(other)))
            one.limit(0, (9, 1))
            one.lay(("divide", "a", (1, 3), "x", "y"))
            one.back()
            one.back()
            one.back()
            one.lift()
            self.assertEqual(repr((other.net.parts, other.told, len(other))), before)
            self.assertFalse(one == other)

    def test_a_twin_of_a_twin(self):
        watch = example()
        mate = watch.twin().twin()
        watch.back()
        self.same(len(mate), 3)
        self.same(mate.back(), None)
        self.assertTrue(mate == watch)


class EqualTest(Case):

    def test_the_same_net_with_other_told(self):
        net = Net.of("weir in 3 a r")
        one, other = Watch(net), Watch(net)
        self.assertTrue(one == other)
        self.assertFalse(one != other)
        one.limit(0, (3, 1))
        self.same(one.net, other.net)
        self.assertFalse(one == other)
        self.assertTrue(one != other)
        one.back()
        self.assertTrue(one == other)

    def test_other_nets_with_the_same_told(self):
        one, other = Watch(Net.of("weir in 3 a r; join a r j")), Watch(Net.of("divide in 1/2 a r; join a r j"))
        self.same(one.told, other.told)
        self.assertFalse(one == other)
        self.assertTrue(one != other)

    def test_the_same_by_other_deeds(self):
        one, other = Watch(Net()), Watch(Net())
        one.lay(("weir", "in", (3, 1), "a", "r"))
        other.lay(("weir", "in", (4, 1), "a", "r"))
        other.limit(0, (3, 1))
        self.assertFalse(one == other)
        other.back()
        other.back()
        other.lay(("weir", "in", (3, 1), "a", "r"))
        self.assertTrue(one == other)

    def test_other_things(self):
        watch = Watch(Net())
        for thing in (None, 0, "", (), [], Net(), (Net(), watch.told), object()):
            self.assertIs(watch == thing, False)
            self.assertIs(thing == watch, False)
            self.assertIs(watch != thing, True)

    def test_no_iteration(self):
        for call in (iter, list, tuple, sorted, lambda watch: [None for _ in watch], lambda watch: 1 in watch):
            with self.assertRaises(TypeError):
                call(example())


class ManyDeedsTest(Case):

    def test_many_deeds(self):
        chance = random.Random(52)
        for net in some_nets(30, 53, 8):
            watch, nets = Watch(net), [net]
            for _ in range(25):
                wanted = self.next_net(chance, nets[-1])
                deed, args, after = wanted
                before = state(watch)
                try:
                    got = deed_of(watch, deed)(*args)
                except FlowError as error:
                    self.assertIsNone(after, (deed, args, error))
                    self.same(state(watch), before)
                else:
                    if deed == "back":
                        self.same(got, None)
                        nets.pop()
                    else:
                        nets.append(after)
                        self.same(got, layers(after))
                if chance.random() < 0.25 and len(nets) > 1:
                    self.same(watch.back(), None)
                    nets.pop()
                self.same(state(watch), (nets[-1], tuple(table_of(one) for one in nets), len(nets) - 1))

    def next_net(self, chance, net):
        """A deed, its arguments, and the Net behind it; None for one that is refused."""
        deed = chance.choice(("lay", "lay", "lift", "limit", "limit"))
        if deed == "lay":
            part = some_net(chance, 1).parts[0]
            part = (*part[:1], chance.choice(net.outlets), *part[2:]) if part[0] != "join" else part
            try:
                return deed, (part,), with_part(net, part)
            except BadPart:
                return deed, (part,), None
        if deed == "lift":
            return deed, (), first_parts(net, len(net) - 1) if len(net) else None
        place, limit = chance.randrange(-1, len(net) + 1), chance.choice(LIMITS)
        try:
            return deed, (place, limit), limit_changed(net, place, limit)
        except NoPlace:
            return deed, (place, limit), None


def deed_of(watch, deed):
    return {"lay": watch.lay, "lift": watch.lift, "limit": watch.limit, "back": watch.back}[deed]


if __name__ == "__main__":
    unittest.main()
