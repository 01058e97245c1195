"""Colours of a net: who clashes, and which colour is taken then."""

from oddreel.errors import NotNow
from oddreel.hands import is_among, with_number
from oddreel.nets import neighbours


def colours_beside(net, colours, hand):
    return [colours[other] for other in neighbours(net, hand)]


def clashes(net, colours, hand):
    beside = colours_beside(net, colours, hand)
    return colours[hand] in beside or colours[hand] > len(beside)


def clashing(net, colours):
    return tuple([hand for hand in range(net[0]) if clashes(net, colours, hand)])


def least_free(beside):
    # Of one colour more than there are neighbours, one is free at least.
    return min([colour for colour in range(len(beside) + 1) if colour not in beside])


def recoloured(net, colours, hand):
    if not is_among(hand, clashing(net, colours)):
        raise NotNow("this hand does not clash")
    return with_number(colours, hand, least_free(colours_beside(net, colours, hand)))
