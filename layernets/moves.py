"""Another limit, another order: Nets that are changed."""

from layernets.alike import same_up_to
from layernets.errors import NoPlace
from layernets.nets import Net, channels_made, channels_taken, check_weir
from layernets.walks import passed


def limit_changed(net, place, limit):
    """The Net in which the weir at this place has this limit; raises NoPlace(number)."""
    check_weir(net, place)
    word, one, _, to, rest = net.parts[place]
    return Net(net.parts[:place] + ((word, one, limit, to, rest),) + net.parts[place + 1:])


def limit_for(net, place, border):
    """The AMOUNT that has come in the CHANNEL of this weir by the INFLOW border; raises NoPlace(number)."""
    check_weir(net, place)
    return passed(net, net.parts[place][1], border)


def unchanged_to(net, place, limit):
    """The greatest INFLOW up to which this limit changes no flow, None if it never does; raises NoPlace(number)."""
    return same_up_to(net, limit_changed(net, place, limit))


def exchanged_parts(net, place):
    """The Net in which the PART at this place and the next one have changed places; raises NoPlace(number)."""
    if place < 0 or place + 1 >= len(net):
        raise NoPlace(place)
    one, after = net.parts[place], net.parts[place + 1]
    if any([channel in channels_made(one) for channel in channels_taken(after)]):
        raise NoPlace(place)
    return Net(net.parts[:place] + (after, one) + net.parts[place + 2:])
