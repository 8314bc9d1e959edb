"""What the tests of all files use."""

import unittest

from layernets.errors import FlowError


class Case(unittest.TestCase):
    """A test case that also looks at the kinds of values, not at what they are worth alone."""

    def same(self, got, wanted):
        """Tells (1, 2) from [1, 2] and 1 from True, at any depth, which == does not."""
        self.assertEqual(repr(got), repr(wanted))

    def refused(self, error, kept, call, *args, **named):
        """The call raises just this error, which keeps just these values."""
        with self.assertRaises(FlowError) as caught:
            call(*args, **named)
        self.assertIs(type(caught.exception), error)
        for name, value in kept.items():
            self.same(getattr(caught.exception, name), value)


def listed(value):
    """The value with a list for each tuple in it, at any depth."""
    if isinstance(value, (list, tuple)):
        return [listed(item) for item in value]
    return value


def tupled(value):
    """The value with a tuple for each list in it, at any depth."""
    if isinstance(value, (list, tuple)):
        return tuple(tupled(item) for item in value)
    return value


def deep(depth):
    """A tuple in a tuple in a tuple .., so many."""
    nest = ()
    for _ in range(depth - 1):
        nest = (nest,)
    return nest


# Values that are neither a PART nor anything else that a thing is asked to be.
ODD_THINGS = (
    True, False, None, 0, 1, -1, 10 ** 50, "", "in", "join a b c", "weir in 3 a r",
    (), [], (True,), (None, None), ((),), ([],), [[]], ("",), deep(12), listed(deep(12)),
    ("join",), ("join", "a", "b", deep(11)), (deep(11), "a", "b", "c"), ((1, 2), (3, 4)), ((1, 2), (3, 4), (5, 6), (7, 8)),
)
