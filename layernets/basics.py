"""What all other files build on: which values are of which kind."""

from math import gcd

LONGEST_NAME = 8


def is_number(thing):
    """Whether thing is a number: Python takes True and False for integers, the document does not."""
    return isinstance(thing, int) and not isinstance(thing, bool)


def is_name(thing):
    """Whether thing is a NAME."""
    if not isinstance(thing, str) or len(thing) > LONGEST_NAME:
        return False
    # Letters of other scripts are lower, too; the empty string has no letter.
    return thing.isascii() and thing.isalpha() and thing.islower()


def is_fraction(thing):
    """Whether thing is a FRACTION."""
    if not isinstance(thing, tuple) or len(thing) != 2:
        return False
    top, bottom = thing
    if not is_number(top) or not is_number(bottom):
        return False
    return bottom >= 1 and gcd(top, bottom) == 1


def is_amount(thing):
    """Whether thing is an AMOUNT."""
    return is_fraction(thing) and thing[0] >= 0


def is_share(thing):
    """Whether thing is a share."""
    return is_amount(thing) and thing[0] <= thing[1]


def is_single_part(thing):
    """Whether thing is a PART, by itself."""
    if not isinstance(thing, tuple) or len(thing) not in (4, 5):
        return False
    if len(thing) == 4:
        return thing[0] == "join" and are_names(thing[1:])
    word, one, amount, to, rest = thing
    if not are_names((one, to, rest)):
        return False
    return (word == "weir" and is_amount(amount)) or (word == "divide" and is_share(amount))


def are_names(things):
    """Whether all of these things are NAMEs."""
    return all([is_name(thing) for thing in things])


def as_tuples(value):
    """The value with a tuple for each list in it, at any depth: nobody else can change it."""
    if isinstance(value, (list, tuple)):
        return tuple([as_tuples(item) for item in value])
    return value
