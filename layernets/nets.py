"""Nets: PARTS one behind another, each of which takes channels and makes new ones."""

from layernets.basics import as_tuples, is_single_part
from layernets.errors import BadPart, BadText, Known, NoChannel, NoOutlet, NoPlace
from layernets.texts import part_from, part_text


class Net:
    """A Net of PARTS, which does not change; raises BadPart(place) for the first PART that does not fit."""

    def __init__(self, parts=()):
        parts = as_tuples(parts)
        # All channels so far; True for those that no PART has taken yet.
        free = {"in": True}
        for place, part in enumerate(parts):
            if not _fits(part, free):
                raise BadPart(place)
            for channel in channels_taken(part):
                free[channel] = False
            for channel in channels_made(part):
                free[channel] = True
        self._parts = parts
        self._channels = tuple(sorted(free))
        self._outlets = tuple(sorted([channel for channel in free if free[channel]]))

    @staticmethod
    def of(text):
        """The Net with this text; raises BadText(piece) for the first piece that is no PART or does not fit."""
        if text == "-":
            return Net()
        pieces = text.split("; ")
        parts = _parts_until_wrong(pieces)
        try:
            net = Net(parts)
        except BadPart as error:
            raise BadText(error.place) from None
        if len(parts) < len(pieces):
            raise BadText(len(parts))
        return net

    @property
    def parts(self):
        """The PARTS."""
        return self._parts

    @property
    def channels(self):
        """The set of the NAMEs of all channels."""
        return self._channels

    @property
    def outlets(self):
        """The set of the NAMEs of the channels that no PART takes."""
        return self._outlets

    @property
    def weirs(self):
        """How many weirs there are."""
        return len([part for part in self._parts if part[0] == "weir"])

    @property
    def text(self):
        """The text from which Net.of makes this Net."""
        if len(self._parts) == 0:
            return "-"
        return "; ".join([part_text(part) for part in self._parts])

    def __len__(self):
        return len(self._parts)

    def __eq__(self, other):
        return isinstance(other, Net) and self._parts == other._parts


def is_part(thing):
    """Whether thing is a PART, by itself."""
    return is_single_part(thing)


def made_by(net, channel):
    """The place of the PART that makes this channel, None for "in"; raises NoChannel(name)."""
    check_channel(net, channel)
    for place, part in enumerate(net.parts):
        if channel in channels_made(part):
            return place
    return None


def taken_by(net, channel):
    """The place of the PART that takes this channel, None for an outlet; raises NoChannel(name)."""
    check_channel(net, channel)
    for place, part in enumerate(net.parts):
        if channel in channels_taken(part):
            return place
    return None


def with_part(net, part):
    """The Net with this PART more behind all others; raises BadPart(place)."""
    return Net(net.parts + (part,))


def first_parts(net, number):
    """The Net of the first so many PARTS; raises NoPlace(number)."""
    if number < 0 or number > len(net):
        raise NoPlace(number)
    return Net(net.parts[:number])


def lifted(net):
    """The Net without its last PART; raises NoPlace(0) if it has none."""
    if len(net) == 0:
        raise NoPlace(0)
    return first_parts(net, len(net) - 1)


def renamed(net, one, new):
    """The Net whose channel one has the NAME new; raises NoChannel(name), then Known(name)."""
    if one == "in":
        raise NoChannel(one)
    check_channel(net, one)
    if new in net.channels:
        raise Known(new)
    return Net([part_renamed(part, one, new) for part in net.parts])


def check_channel(net, channel):
    """Raises NoChannel(name) if no channel of the Net has this NAME."""
    if channel not in net.channels:
        raise NoChannel(channel)


def check_outlet(net, outlet):
    """Raises NoOutlet(name) if no outlet of the Net has this NAME."""
    if outlet not in net.outlets:
        raise NoOutlet(outlet)


def check_weir(net, place):
    """Raises NoPlace(number) if no PART has this place, or if it is no weir."""
    if place < 0 or place >= len(net) or net.parts[place][0] != "weir":
        raise NoPlace(place)


def part_renamed(part, one, new):
    """The PART with the NAME new for the channel one."""
    # A channel may be called as a PART is: the word in front stays.
    return part[:1] + tuple([new if item == one else item for item in part[1:]])


def channels_taken(part):
    """The channels that a PART takes."""
    return part[1:3] if part[0] == "join" else part[1:2]


def channels_made(part):
    """The channels that a PART makes."""
    return part[3:]


def _parts_until_wrong(pieces):
    """The PARTS with these texts, up to the first piece that is the text of none."""
    parts = []
    for piece in pieces:
        try:
            parts.append(part_from(piece))
        except BadText:
            break
    return parts


def _fits(part, free):
    """Whether a PART fits behind those that made these channels; free tells which of them are not taken."""
    taken, made = channels_taken(part), channels_made(part)
    if len(set(taken)) < len(taken) or len(set(made)) < len(made):
        return False
    if any([channel in free for channel in made]):
        return False
    return all([free.get(channel, False) for channel in taken])
