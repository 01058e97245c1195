"""How far the hands of a net are from hand 0."""

from oddreel.hands import with_number
from oddreel.nets import neighbours


def right_number(net, numbers, hand):
    if hand == 0:
        return 0
    many = net[0]
    return min([many] + [numbers[other] + 1 for other in neighbours(net, hand)])


def wrong_far(net, numbers):
    return tuple([hand for hand in range(net[0]) if numbers[hand] != right_number(net, numbers, hand)])


def mended_far(net, numbers, hand):
    return with_number(numbers, hand, right_number(net, numbers, hand))


def round_far(net, numbers, order):
    mended = numbers
    for hand in order:
        mended = mended_far(net, mended, hand)
    return mended


def far(net):
    many = net[0]
    distances = {0: 0}
    waiting = [0]
    # First come, first served: so each hand is first met along a shortest way.
    while waiting:
        hand = waiting.pop(0)
        for other in neighbours(net, hand):
            if other not in distances:
                distances[other] = distances[hand] + 1
                waiting.append(other)
    return tuple([distances.get(hand, many) for hand in range(many)])
