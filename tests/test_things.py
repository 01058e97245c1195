import copy
import itertools
import unittest

from oddreel.things import is_net, is_state


def nested(wrap, depth):
    thing = 0
    for level in range(depth):
        thing = wrap(thing)
    return thing


# Things of every kind that 1.1 names and that are neither a number, a state nor a net.
ODD_THINGS = [
    None, True, False, "", "0", "ab", "00", [], [0], [0, 0], [2, []], (), ((),), [[]],
    nested(lambda thing: (thing,), 30),
    nested(lambda thing: [thing], 30),
    nested(lambda thing: (thing, thing), 12),
    nested(lambda thing: (1, [thing]), 30),
    nested(lambda thing: (1, (thing,)), 35),
]
RINGS = [(many, size) for many in range(2, 9) for size in range(many, 21)]


def put(parts, at, thing):
    return parts[:at] + (thing,) + parts[at + 1:]


def all_edges(many):
    return tuple(itertools.combinations(range(many), 2))


class Told(unittest.TestCase):
    def tell(self, expected, ask, *handed):
        before = copy.deepcopy(handed)
        for again in range(2):
            answer = ask(*handed)
            self.assertIs(answer, expected, (ask, handed))
        self.assertEqual(repr(handed), repr(before))


class States(Told):
    def test_states_of_all_rings(self):
        for many, size in RINGS:
            self.tell(True, is_state, (0,) * many, size)
            self.tell(True, is_state, (size - 1,) * many, size)
            self.tell(True, is_state, tuple(range(many)), size)
            self.tell(True, is_state, tuple([(7 * hand + 3) % size for hand in range(many)]), size)

    def test_every_number_of_a_small_ring(self):
        for state in itertools.product(range(-2, 6), repeat=3):
            for size in (3, 4):
                self.tell(min(state) >= 0 and max(state) < size, is_state, state, size)

    def test_numbers_beyond_the_bounds(self):
        for many, size in RINGS:
            for hand in range(many):
                for number in (-1, size, size + 1, -size, 10 ** 30, -10 ** 30):
                    self.tell(False, is_state, put((0,) * many, hand, number), size)

    def test_things_in_a_numbers_place(self):
        for many, size in ((2, 2), (2, 20), (3, 5), (8, 8), (8, 20)):
            for hand in range(many):
                for thing in ODD_THINGS:
                    self.tell(False, is_state, put((1,) * many, hand, thing), size)

    def test_too_few_and_too_many_hands(self):
        for size in range(2, 21):
            self.tell(False, is_state, (), size)
            self.tell(False, is_state, (0,), size)
            for many in (9, 10, 20, 21):
                self.tell(False, is_state, (0,) * many, size)

    def test_more_hands_than_the_size(self):
        for many in range(3, 9):
            for size in range(2, many):
                self.tell(False, is_state, (0,) * many, size)

    def test_sizes_that_no_ring_has(self):
        for many in range(2, 9):
            for size in (-1, 0, 1, 21, 22, 100):
                self.tell(False, is_state, (0,) * many, size)

    def test_lists_in_the_tuples_place(self):
        for many, size in RINGS:
            self.tell(False, is_state, [0] * many, size)

    def test_things_that_are_no_state(self):
        for size in range(2, 21):
            for thing in ODD_THINGS + [0, 1, 10 ** 30]:
                self.tell(False, is_state, thing, size)

    def test_a_net_is_no_state(self):
        self.tell(False, is_state, (2, ()), 3)
        self.tell(False, is_state, (2, ((0, 1),)), 3)


class Nets(Told):
    def test_nets_of_every_number_of_hands(self):
        for many in range(1, 9):
            edges = all_edges(many)
            self.tell(True, is_net, (many, ()))
            self.tell(True, is_net, (many, edges))
            self.tell(True, is_net, (many, edges[::2]))
            self.tell(True, is_net, (many, tuple([(hand, hand + 1) for hand in range(many - 1)])))
            for edge in edges:
                self.tell(True, is_net, (many, (edge,)))

    def test_all_nets_of_up_to_four_hands(self):
        for many in range(1, 5):
            edges = all_edges(many)
            for length in range(len(edges) + 1):
                for some in itertools.combinations(edges, length):
                    self.tell(True, is_net, (many, some))

    def test_all_rows_of_up_to_three_pairs(self):
        pairs = list(itertools.product(range(-1, 4), repeat=2))
        for length in range(4):
            nets = set(itertools.combinations(all_edges(3), length))
            for row in itertools.product(pairs, repeat=length):
                if is_net((3, row)) is not (row in nets):
                    self.fail(row)

    def test_numbers_of_hands_beyond_the_bounds(self):
        for many in (0, -1, -8, 9, 10, 10 ** 30):
            self.tell(False, is_net, (many, ()))
        self.tell(False, is_net, (9, ((0, 1),)))
        self.tell(False, is_net, (9, all_edges(9)))

    def test_things_in_the_place_of_how_many(self):
        for thing in ODD_THINGS:
            self.tell(False, is_net, (thing, ()))

    def test_things_in_the_edges_place(self):
        for thing in ODD_THINGS + [0, 1]:
            if thing != ():
                self.tell(False, is_net, (3, thing))
        self.tell(False, is_net, (3, [(0, 1)]))
        self.tell(False, is_net, (3, (0, 1)))

    def test_things_in_an_edges_place(self):
        for thing in ODD_THINGS + [0, 1, [0, 1]]:
            self.tell(False, is_net, (3, (thing,)))
            self.tell(False, is_net, (3, ((0, 1), thing)))
            self.tell(False, is_net, (3, (thing, (1, 2))))

    def test_things_in_a_hands_place(self):
        for thing in ODD_THINGS:
            self.tell(False, is_net, (3, ((0, thing),)))
            self.tell(False, is_net, (3, ((thing, 1),)))
            self.tell(False, is_net, (3, ((thing, 2),)))
            self.tell(False, is_net, (3, ((0, 1), (1, thing))))

    def test_edges_turned_about_doubled_and_of_one_hand(self):
        for many in range(2, 9):
            for one, other in all_edges(many):
                self.tell(False, is_net, (many, ((other, one),)))
                self.tell(False, is_net, (many, ((one, other), (one, other))))
            for hand in range(many):
                self.tell(False, is_net, (many, ((hand, hand),)))
        self.tell(False, is_net, (1, ((0, 0),)))
        self.tell(False, is_net, (2, ((0, 1), (1, 0))))

    def test_edges_that_do_not_rise(self):
        for many in range(3, 9):
            edges = all_edges(many)
            self.tell(False, is_net, (many, edges[::-1]))
            for at in range(len(edges) - 1):
                turned = put(put(edges, at, edges[at + 1]), at + 1, edges[at])
                self.tell(False, is_net, (many, turned))

    def test_edges_with_a_hand_that_is_not_there(self):
        for many in range(1, 9):
            self.tell(False, is_net, (many, ((0, many),)))
            self.tell(False, is_net, (many, ((many - 1, many),)))
            self.tell(False, is_net, (many, ((many, many + 1),)))
            self.tell(False, is_net, (many, ((-1, 0),)))
            self.tell(False, is_net, (many, ((-2, -1),)))
            self.tell(False, is_net, (many, all_edges(many) + ((many - 1, 10 ** 30),)))

    def test_a_part_missing_or_one_too_many(self):
        for thing in ((), (3,), ((),), (3, (), ()), (3, ((0, 1),), 0), (3, ((0,),)), (3, ((0, 1, 2),)),
                      (3, ((),)), ((), 3), (((0, 1),), 3)):
            self.tell(False, is_net, thing)

    def test_lists_in_a_tuples_place(self):
        for thing in ([3, ()], [3, ((0, 1),)], (3, []), (3, [[0, 1]]), (3, ([0, 1],)), (3, ((0, 1), [1, 2]))):
            self.tell(False, is_net, thing)

    def test_things_that_are_no_net(self):
        for thing in ODD_THINGS + [0, 1, 10 ** 30, (0, 0), (1, 1), (3, 3)]:
            self.tell(False, is_net, thing)


if __name__ == "__main__":
    unittest.main()
