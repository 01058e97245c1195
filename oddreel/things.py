"""What is a state of a ring, and what is a net."""

FEWEST_ON_RING = 2
FEWEST_ON_NET = 1
MOST_HANDS = 8
GREATEST_SIZE = 20


def is_whole(thing):
    # Python counts True and False among its ints; here they are no numbers.
    return isinstance(thing, int) and not isinstance(thing, bool)


def is_whole_within(thing, least, greatest):
    return is_whole(thing) and least <= thing <= greatest


def is_tuple_of(thing, length):
    return isinstance(thing, tuple) and len(thing) == length


def is_state(thing, size):
    if not isinstance(thing, tuple):
        return False
    many = len(thing)
    if not FEWEST_ON_RING <= many <= MOST_HANDS:
        return False
    if not is_whole_within(size, many, GREATEST_SIZE):
        return False
    return all([is_whole_within(number, 0, size - 1) for number in thing])


def is_edge(thing, many):
    if not is_tuple_of(thing, 2):
        return False
    one = thing[0]
    other = thing[1]
    return is_whole_within(other, 0, many - 1) and is_whole_within(one, 0, other - 1)


def is_rising(parts):
    return all([parts[k - 1] < parts[k] for k in range(1, len(parts))])


def is_net(thing):
    if not is_tuple_of(thing, 2):
        return False
    many = thing[0]
    edges = thing[1]
    if not is_whole_within(many, FEWEST_ON_NET, MOST_HANDS):
        return False
    if not isinstance(edges, tuple):
        return False
    # Only edges that are pairs of numbers can be compared at all.
    return all([is_edge(edge, many) for edge in edges]) and is_rising(edges)
