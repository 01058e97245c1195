"""Points 0.4 and 1.2: who are neighbours on a net."""
import unittest

from helping import all_edges, beside, greater_nets, plain, shaped_nets, small_nets
from oddreel.nets import neighbours
from oddreel.things import is_net


class Neighbours(unittest.TestCase):
    def test_written_ones(self):
        for net, rows in (
                ((1, ()), [()]),
                ((2, ()), [(), ()]),
                ((2, ((0, 1),)), [(1,), (0,)]),
                ((3, ((0, 2),)), [(2,), (), (0,)]),
                ((3, ((0, 1), (1, 2))), [(1,), (0, 2), (1,)]),
                ((4, ((0, 3), (1, 2), (1, 3), (2, 3))), [(3,), (2, 3), (1, 3), (0, 1, 2)]),
                ((5, ((0, 2), (1, 2), (2, 3), (2, 4))), [(2,), (2,), (0, 1, 3, 4), (2,), (2,)]),
                ((8, ((0, 7), (3, 7), (5, 7), (6, 7))), [(7,), (), (), (7,), (), (7,), (7,), (0, 3, 5, 6)]),
        ):
            self.assertEqual([neighbours(net, hand) for hand in range(net[0])], rows, net)

    def test_no_edge_and_all_edges(self):
        for many in range(1, 9):
            for hand in range(many):
                self.assertEqual(neighbours((many, ()), hand), ())
                others = tuple([other for other in range(many) if other != hand])
                self.assertEqual(neighbours((many, all_edges(many)), hand), others)

    def test_one_edge(self):
        for many in range(2, 9):
            for one, other in all_edges(many):
                net = (many, ((one, other),))
                for hand in range(many):
                    self.assertEqual(neighbours(net, hand), {one: (other,), other: (one,)}.get(hand, ()), (net, hand))

    def test_each_hand_by_the_words(self):
        shaped = [net for many in range(1, 5) for net in shaped_nets(many)]
        for net in small_nets() + shaped + greater_nets():
            self.assertTrue(is_net(net), net)
            for hand in range(net[0]):
                told = neighbours(net, hand)
                self.assertTrue(plain(told), net)
                self.assertEqual(told, tuple(sorted(beside(net, hand))), (net, hand))
                self.assertEqual(told, neighbours(net, hand))

    def test_nets_somewhat_beyond_the_bounds(self):
        self.assertEqual(neighbours((10, all_edges(10)), 9), (0, 1, 2, 3, 4, 5, 6, 7, 8))
        self.assertEqual(neighbours((3, ((0, 1), (1, 2))), 3), ())
        self.assertEqual(neighbours((3, ((0, 1), (1, 2))), -1), ())


if __name__ == "__main__":
    unittest.main()
