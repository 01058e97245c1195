"""Points 3.1, 3.2 and 3.3: right numbers, rounds and distances."""
import itertools
import unittest

from helping import Draw, all_edges, beside, distances, greater_nets, plain, small_nets
from oddreel.far import far, mended_far, round_far, wrong_far

ROW = (4, ((0, 1), (1, 2), (2, 3)))


def right(net, numbers, hand):
    if hand == 0:
        return 0
    least = min([numbers[other] for other in beside(net, hand)], default=net[0])
    return least + 1 if least < net[0] else net[0]


def put(numbers, hand, number):
    return numbers[:hand] + (number,) + numbers[hand + 1:]


def some_numbers(net, how_many=8):
    many = net[0]
    for number in range(many + 1):
        yield (number,) * many
    yield tuple(range(many))
    yield tuple(range(many, 0, -1))
    draw = Draw(many + len(net[1]))
    for each in range(how_many):
        yield tuple([draw.below(many + 1) for hand in range(many)])


def nets_and_numbers():
    for net in small_nets(3):
        for numbers in itertools.product(range(net[0] + 1), repeat=net[0]):
            yield net, numbers
    for net in small_nets() + greater_nets():
        for numbers in some_numbers(net):
            yield net, numbers


class WrongFar(unittest.TestCase):
    def test_written_ones(self):
        for net, numbers, hands in (
                ((1, ()), (0,), ()),
                ((1, ()), (1,), (0,)),
                ((2, ()), (0, 2), ()),
                ((2, ()), (0, 1), (1,)),
                ((2, ()), (2, 0), (0, 1)),
                ((2, ((0, 1),)), (0, 1), ()),
                ((2, ((0, 1),)), (0, 2), (1,)),
                ((2, ((0, 1),)), (1, 2), (0,)),
                (ROW, (0, 1, 2, 3), ()),
                (ROW, (0, 0, 0, 0), (1, 2, 3)),
                (ROW, (4, 4, 4, 4), (0,)),
                (ROW, (0, 1, 2, 4), (3,)),
                (ROW, (0, 1, 4, 3), (2, 3)),
                (ROW, (3, 2, 1, 2), (0, 2)),
        ):
            self.assertEqual(wrong_far(net, numbers), hands, (net, numbers))

    def test_each_hand_by_the_words(self):
        for net, numbers in nets_and_numbers():
            hands = wrong_far(net, numbers)
            self.assertTrue(plain(hands), (net, numbers))
            self.assertEqual(hands, tuple([hand for hand in range(net[0])
                                           if numbers[hand] != right(net, numbers, hand)]), (net, numbers))

    def test_hand_0_is_right_at_0_alone(self):
        for many in range(1, 9):
            for edges in ((), all_edges(many)):
                for number in range(many + 1):
                    self.assertEqual(0 in wrong_far((many, edges), (number,) * many), number != 0)

    def test_a_hand_without_neighbours_is_right_at_many_alone(self):
        for many in range(2, 9):
            for number in range(many + 1):
                hands = wrong_far((many, ()), (0,) + (number,) * (many - 1))
                self.assertEqual(hands, () if number == many else tuple(range(1, many)))

    def test_numbers_and_nets_somewhat_beyond_the_bounds(self):
        self.assertEqual(wrong_far(ROW, (0, 1, 7, 4)), (2,))
        self.assertEqual(wrong_far((10, ()), (0,) + (10,) * 9), ())


class MendedFar(unittest.TestCase):
    def test_written_ones(self):
        for net, numbers, hand, behind in (
                ((1, ()), (1,), 0, (0,)),
                ((2, ()), (2, 0), 0, (0, 0)),
                ((2, ()), (2, 0), 1, (2, 2)),
                (ROW, (3, 2, 0, 2), 0, (0, 2, 0, 2)),
                (ROW, (3, 2, 0, 2), 1, (3, 1, 0, 2)),
                (ROW, (3, 2, 0, 2), 2, (3, 2, 3, 2)),
                (ROW, (3, 2, 0, 2), 3, (3, 2, 0, 1)),
        ):
            self.assertEqual(mended_far(net, numbers, hand), behind, (net, numbers, hand))

    def test_the_least_neighbour_has_many_or_a_little_less(self):
        for many in range(2, 9):
            net = (many, all_edges(many))
            last = many - 1
            for least, number in ((many, many), (many - 1, many), (many - 2, many - 1), (0, 1)):
                numbers = (many,) * (many - 2) + (least, 0)
                self.assertEqual(mended_far(net, numbers, last)[last], number, (net, numbers))

    def test_every_hand_by_the_words(self):
        for net, numbers in nets_and_numbers():
            for hand in range(net[0]):
                behind = mended_far(net, numbers, hand)
                self.assertTrue(plain(behind), (net, numbers, hand))
                self.assertEqual(behind, put(numbers, hand, right(net, numbers, hand)), (net, numbers, hand))
                self.assertNotIn(hand, wrong_far(net, behind), (net, numbers, hand))

    def test_a_number_that_is_right_already_stays(self):
        for net, numbers in nets_and_numbers():
            wrong = wrong_far(net, numbers)
            for hand in range(net[0]):
                self.assertEqual(mended_far(net, numbers, hand) == numbers, hand not in wrong, (net, numbers, hand))

    def test_hands_somewhat_beyond_the_bounds_are_not_refused(self):
        for hand in (-1, -4, -5, 4, 5, 9):
            self.assertEqual(mended_far(ROW, (3, 2, 0, 2), hand), (3, 2, 0, 2))


class RoundFar(unittest.TestCase):
    def test_written_ones(self):
        for net, numbers, order, behind in (
                ((1, ()), (1,), (0,), (0,)),
                ((2, ()), (2, 0), (0, 1), (0, 2)),
                ((2, ((0, 1),)), (2, 2), (0, 1), (0, 1)),
                ((2, ((0, 1),)), (2, 2), (1, 0), (0, 2)),
                (ROW, (4, 4, 4, 4), (0, 1, 2, 3), (0, 1, 2, 3)),
                (ROW, (4, 4, 4, 4), (3, 2, 1, 0), (0, 4, 4, 4)),
                (ROW, (4, 4, 4, 4), (0, 2, 1, 3), (0, 1, 4, 4)),
                (ROW, (0, 0, 0, 0), (0, 1, 2, 3), (0, 1, 1, 2)),
                (ROW, (0, 0, 0, 0), (3, 2, 1, 0), (0, 1, 1, 1)),
                (ROW, (0, 0, 0, 0), (2, 0, 3, 1), (0, 1, 1, 2)),
        ):
            self.assertEqual(round_far(net, numbers, order), behind, (net, numbers, order))

    def check(self, net, numbers, order):
        behind = numbers
        for hand in order:
            behind = put(behind, hand, right(net, behind, hand))
        told = round_far(net, numbers, order)
        self.assertTrue(plain(told), (net, numbers, order))
        self.assertEqual(told, behind, (net, numbers, order))

    def test_rising_falling_and_drawn_orders(self):
        draw = Draw(3)
        for net, numbers in nets_and_numbers():
            hands = tuple(range(net[0]))
            for order in (hands, hands[::-1], draw.shuffled(hands), draw.shuffled(hands)):
                self.check(net, numbers, order)

    def test_all_orders_of_small_nets(self):
        for net in small_nets():
            for numbers in some_numbers(net, 2):
                for order in itertools.permutations(range(net[0])):
                    self.check(net, numbers, order)


class Far(unittest.TestCase):
    def test_written_ones(self):
        for net, numbers in (
                ((1, ()), (0,)),
                ((2, ()), (0, 2)),
                ((2, ((0, 1),)), (0, 1)),
                ((3, ((1, 2),)), (0, 3, 3)),
                ((3, ((0, 2), (1, 2))), (0, 2, 1)),
                (ROW, (0, 1, 2, 3)),
                ((4, ((0, 1), (0, 3), (1, 2), (2, 3))), (0, 1, 2, 1)),
                ((5, ((0, 4), (1, 2), (1, 3), (2, 3))), (0, 5, 5, 5, 1)),
                ((6, ((0, 5), (1, 2), (2, 3), (3, 4), (4, 5))), (0, 5, 4, 3, 2, 1)),
                ((8, ((0, 7), (1, 6), (1, 7), (2, 5), (2, 6), (3, 4))), (0, 2, 4, 8, 8, 5, 3, 1)),
        ):
            self.assertEqual(far(net), numbers, net)

    def test_in_one_piece_and_in_several_by_the_words(self):
        pieces = set()
        for net in small_nets() + greater_nets(40):
            told = far(net)
            self.assertTrue(plain(told), net)
            self.assertEqual(told, distances(net), net)
            pieces.add(net[0] in told)
        self.assertEqual(pieces, {True, False})

    def test_no_edge_and_all_edges(self):
        for many in range(1, 9):
            self.assertEqual(far((many, ())), (0,) + (many,) * (many - 1))
            self.assertEqual(far((many, all_edges(many))), (0,) + (1,) * (many - 1))

    def test_nothing_is_wrong_about_far(self):
        for net in small_nets() + greater_nets():
            numbers = far(net)
            self.assertEqual(wrong_far(net, numbers), (), net)
            for hand in range(net[0]):
                self.assertEqual(mended_far(net, numbers, hand), numbers, (net, hand))

    def test_nets_somewhat_beyond_the_bounds(self):
        self.assertEqual(far((0, ())), ())
        self.assertEqual(far((10, tuple([(hand, hand + 1) for hand in range(9)]))), tuple(range(10)))


if __name__ == "__main__":
    unittest.main()
