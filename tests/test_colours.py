"""Point 4.1: colours that clash, and what a hand takes then."""
import itertools
import unittest

from helping import Draw, all_edges, beside, greater_nets, hands_not_there, plain, small_nets
from oddreel.colours import clashing, recoloured
from oddreel.errors import NotNow, ReelError

ROW = (4, ((0, 1), (1, 2), (2, 3)))
BEYOND = 10 ** 30


def clashes(net, colours, hand):
    near = beside(net, hand)
    return colours[hand] > len(near) or any(colours[other] == colours[hand] for other in near)


def least_free(net, colours, hand):
    taken = {colours[other] for other in beside(net, hand)}
    return next(colour for colour in itertools.count() if colour not in taken)


def some_colours(net, how_many=6):
    many = net[0]
    for colour in (0, 1, 2, many - 1, many, 9, 1000, BEYOND):
        yield (colour,) * many
    yield tuple(range(many))
    yield tuple(range(many - 1, -1, -1))
    yield tuple([hand % 2 for hand in range(many)])
    yield tuple([(0, BEYOND, BEYOND + 1)[hand % 3] for hand in range(many)])
    draw = Draw(many * 50 + len(net[1]))
    for each in range(how_many):
        yield tuple([draw.below((3, many, 10)[each % 3]) for hand in range(many)])


def nets_and_colours():
    for net in small_nets(3):
        for colours in itertools.product(range(10), repeat=net[0]):
            yield net, colours
    for net in small_nets() + greater_nets():
        for colours in some_colours(net):
            yield net, colours


class Clashing(unittest.TestCase):
    def test_written_ones(self):
        for net, colours, hands in (
                ((1, ()), (0,), ()),
                ((1, ()), (1,), (0,)),
                ((1, ()), (BEYOND,), (0,)),
                ((2, ()), (0, 0), ()),
                ((2, ((0, 1),)), (0, 0), (0, 1)),
                ((2, ((0, 1),)), (0, 1), ()),
                ((2, ((0, 1),)), (0, 2), (1,)),
                ((2, ((0, 1),)), (9, 9), (0, 1)),
                (ROW, (0, 1, 2, 1), ()),
                (ROW, (2, 1, 2, 0), (0,)),
                (ROW, (0, 0, 1, 0), (0, 1)),
                (ROW, (0, 3, 0, BEYOND), (1, 3)),
                ((4, all_edges(4)), (3, 2, 1, 0), ()),
                ((4, all_edges(4)), (3, 2, 3, 4), (0, 2, 3)),
        ):
            self.assertEqual(clashing(net, colours), hands, (net, colours))

    def test_each_hand_by_the_words(self):
        for net, colours in nets_and_colours():
            hands = clashing(net, colours)
            self.assertTrue(plain(hands), (net, colours))
            self.assertEqual(hands, tuple([hand for hand in range(net[0]) if clashes(net, colours, hand)]),
                             (net, colours))

    def test_as_great_as_how_many_neighbours_and_one_more(self):
        for many in range(1, 9):
            # Hand 0 has all others as its neighbours, and each of these hand 0 alone.
            net = (many, tuple([(0, hand) for hand in range(1, many)]))
            self.assertEqual(clashing(net, (many - 1,) + (0,) * (many - 1)), ())
            self.assertEqual(clashing(net, (many,) + (0,) * (many - 1)), (0,))

    def test_nets_somewhat_beyond_the_bounds(self):
        self.assertEqual(clashing((10, all_edges(10)), tuple(range(10))), ())
        self.assertEqual(clashing((10, ()), (0,) * 9 + (1,)), (9,))


class Recoloured(unittest.TestCase):
    def test_written_ones(self):
        for net, colours, hand, behind in (
                ((1, ()), (1,), 0, (0,)),
                ((1, ()), (BEYOND,), 0, (0,)),
                ((2, ((0, 1),)), (0, 0), 0, (1, 0)),
                ((2, ((0, 1),)), (0, 0), 1, (0, 1)),
                ((2, ((0, 1),)), (9, 9), 0, (0, 9)),
                ((2, ((0, 1),)), (0, BEYOND), 1, (0, 1)),
                (ROW, (0, 0, 1, 0), 1, (0, 2, 1, 0)),
                (ROW, (0, 0, 1, 0), 0, (1, 0, 1, 0)),
                (ROW, (1, 3, 2, 0), 1, (1, 0, 2, 0)),
                ((4, all_edges(4)), (0, 1, 2, 2), 3, (0, 1, 2, 3)),
                ((4, all_edges(4)), (3, 3, 0, 2), 0, (1, 3, 0, 2)),
        ):
            self.assertEqual(recoloured(net, colours, hand), behind, (net, colours, hand))

    def test_every_clashing_hand_by_the_words(self):
        for net, colours in nets_and_colours():
            for hand in clashing(net, colours):
                behind = recoloured(net, colours, hand)
                self.assertTrue(plain(behind), (net, colours, hand))
                free = least_free(net, colours, hand)
                self.assertEqual(behind, colours[:hand] + (free,) + colours[hand + 1:], (net, colours, hand))
                self.assertNotIn(hand, clashing(net, behind), (net, colours, hand))

    def test_not_now_of_a_hand_that_does_not_clash(self):
        for net, colours in nets_and_colours():
            for hand in range(net[0]):
                if not clashes(net, colours, hand):
                    self.assertRaises(NotNow, recoloured, net, colours, hand)

    def test_not_now_of_hands_that_are_none_of_the_net(self):
        for net in small_nets(3) + greater_nets(2):
            for colours in ((0,) * net[0], (9,) * net[0]):
                for hand in hands_not_there(net[0]):
                    self.assertRaises(NotNow, recoloured, net, colours, hand)

    def test_truths_are_no_hands(self):
        for hand in (True, False):
            self.assertRaises(NotNow, recoloured, ROW, (9, 9, 9, 9), hand)

    def test_the_refusal_is_taken_by_the_classes_above_it(self):
        for above in (NotNow, ReelError, ValueError):
            for hand in (0, -1, 4, BEYOND):
                self.assertRaises(above, recoloured, ROW, (0, 1, 2, 9), hand)

    def test_nets_somewhat_beyond_the_bounds(self):
        alike = (9, 1, 2, 3, 4, 5, 6, 7, 8, 9)
        self.assertEqual(recoloured((10, all_edges(10)), alike, 9), (9, 1, 2, 3, 4, 5, 6, 7, 8, 0))


if __name__ == "__main__":
    unittest.main()
