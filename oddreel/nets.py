"""Who stands beside whom on a net."""


def neighbours(net, hand):
    edges = net[1]
    lesser = [edge[0] for edge in edges if edge[1] == hand]
    greater = [edge[1] for edge in edges if edge[0] == hand]
    # The edges rise, so each of the two rises.
    return tuple(lesser + greater)
