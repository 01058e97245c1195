"""Crowds of a net: who is at odds, and goes out or in then."""

from oddreel.errors import NotNow
from oddreel.hands import is_among, with_number
from oddreel.nets import neighbours


def is_in(crowd, hand):
    return crowd[hand] == 1


def is_at_odds(net, crowd, hand):
    near = any([is_in(crowd, other) for other in neighbours(net, hand)])
    # The same of both: in with a neighbour in, or out with none in.
    return is_in(crowd, hand) == near


def at_odds(net, crowd):
    return tuple([hand for hand in range(net[0]) if is_at_odds(net, crowd, hand)])


def turned(net, crowd, hand):
    if not is_among(hand, at_odds(net, crowd)):
        raise NotNow("this hand is not at odds")
    return with_number(crowd, hand, 0 if is_in(crowd, hand) else 1)
