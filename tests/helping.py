"""What several test files need: nets to try, the document's words told over again, and draws by a fixed rule."""
import itertools

NOT_THERE = [-1, -2, -100, 1000, 10 ** 30, -10 ** 30, 10 ** 6000, -10 ** 6000]


class Draw:
    # A fixed rule in the place of chance, so that each run of the tests is the same.
    def __init__(self, seed):
        self.now = seed

    def below(self, limit):
        self.now = (self.now * 6364136223846793005 + 1442695040888963407) % 2 ** 64
        return (self.now >> 33) % limit

    def one_of(self, things):
        return things[self.below(len(things))]

    def shuffled(self, things):
        left = list(things)
        return tuple([left.pop(self.below(len(left))) for each in range(len(left))])


def plain(thing):
    # Tuples and ints alone, however deep: no truths, no lists, no classes made from these.
    if thing.__class__ is tuple:
        return all(plain(part) for part in thing)
    return thing.__class__ is int


def hands_not_there(many):
    return [many, many + 1, -many, -many - 1] + NOT_THERE


def all_edges(many):
    return tuple(itertools.combinations(range(many), 2))


def all_nets(many):
    edges = all_edges(many)
    for length in range(len(edges) + 1):
        for some in itertools.combinations(edges, length):
            yield many, some


def small_nets(most=4):
    return [net for many in range(1, most + 1) for net in all_nets(many)]


def drawn_nets(many, how_many):
    draw = Draw(many)
    for each in range(how_many):
        # From nearly no edge to nearly all of them.
        share = 1 + each % 7
        yield many, tuple([edge for edge in all_edges(many) if draw.below(8) < share])


def shaped_nets(many):
    half = many // 2
    row = [(hand, hand + 1) for hand in range(many - 1)]
    # Ways to hand 0 that don't rise.
    back = [(0, many - 1)] + row[1:] if many > 2 else row
    shapes = [
        (), all_edges(many), row, back, set(row + back),
        [(0, hand) for hand in range(1, many)], [(hand, many - 1) for hand in range(many - 1)],
        [edge for edge in all_edges(many) if edge[0] != 0],
        [(one, other) for one, other in all_edges(many) if one < half <= other],
        [(one, other) for one, other in all_edges(many) if (one < half) == (other < half)],
    ]
    return [(many, tuple(sorted(shape))) for shape in shapes]


def greater_nets(how_many=14):
    return [net for many in range(5, 9) for net in shaped_nets(many) + list(drawn_nets(many, how_many))]


def beside(net, hand):
    many, edges = net
    return {other for other in range(many) if (min(hand, other), max(hand, other)) in edges}


def distances(net):
    many = net[0]
    found = {}
    reached = {0}
    for steps in range(many):
        for hand in reached:
            found.setdefault(hand, steps)
        reached = {other for hand in reached for other in beside(net, hand)}
    return tuple([found.get(hand, many) for hand in range(many)])


def renamed_net(net, names):
    many, edges = net
    return many, tuple(sorted([tuple(sorted([names[one], names[other]])) for one, other in edges]))


def renamed_hands(hands, names):
    return tuple(sorted([names[hand] for hand in hands]))


def renamed_numbers(numbers, names):
    row = [None] * len(numbers)
    for hand, number in enumerate(numbers):
        row[names[hand]] = number
    return tuple(row)


def unlike_nets(many, fixed=0):
    # One net for all that differ by the numbers of their hands alone; the first fixed ones keep theirs.
    names = [tuple(range(fixed)) + rest for rest in itertools.permutations(range(fixed, many))]
    met = set()
    for net in all_nets(many):
        if net not in met:
            met.update([renamed_net(net, each) for each in names])
            yield net
