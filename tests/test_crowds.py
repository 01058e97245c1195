"""Point 5.1: crowds, who is at odds with them, and who goes out or in."""
import itertools
import unittest

from helping import all_edges, beside, greater_nets, hands_not_there, plain, small_nets
from oddreel.crowds import at_odds, turned
from oddreel.errors import NotNow, ReelError

ROW = (4, ((0, 1), (1, 2), (2, 3)))


def is_at_odds(net, crowd, hand):
    inside = [other for other in beside(net, hand) if crowd[other] == 1]
    if crowd[hand] == 1:
        return inside != []
    return inside == []


def nets_and_crowds():
    for net in small_nets():
        for crowd in itertools.product((0, 1), repeat=net[0]):
            yield net, crowd
    for net in greater_nets(7):
        # Every third one of them reaches each hand in and out.
        for crowd in itertools.islice(itertools.product((0, 1), repeat=net[0]), None, None, 3):
            yield net, crowd


class AtOdds(unittest.TestCase):
    def test_written_ones(self):
        for net, crowd, hands in (
                ((1, ()), (0,), (0,)),
                ((1, ()), (1,), ()),
                ((2, ()), (1, 1), ()),
                ((2, ()), (0, 1), (0,)),
                ((2, ((0, 1),)), (0, 0), (0, 1)),
                ((2, ((0, 1),)), (1, 1), (0, 1)),
                ((2, ((0, 1),)), (1, 0), ()),
                (ROW, (1, 0, 1, 0), ()),
                (ROW, (1, 0, 0, 1), ()),
                (ROW, (1, 0, 0, 0), (2, 3)),
                (ROW, (1, 1, 0, 0), (0, 1, 3)),
                (ROW, (0, 0, 0, 0), (0, 1, 2, 3)),
                (ROW, (1, 1, 1, 1), (0, 1, 2, 3)),
                (ROW, (0, 1, 1, 0), (1, 2)),
        ):
            self.assertEqual(at_odds(net, crowd), hands, (net, crowd))

    def test_each_hand_by_the_words(self):
        for net, crowd in nets_and_crowds():
            hands = at_odds(net, crowd)
            self.assertTrue(plain(hands), (net, crowd))
            self.assertEqual(hands, tuple([hand for hand in range(net[0]) if is_at_odds(net, crowd, hand)]),
                             (net, crowd))

    def test_nobody_in_and_everybody_in(self):
        for many in range(1, 9):
            everybody = tuple(range(many))
            self.assertEqual(at_odds((many, all_edges(many)), (0,) * many), everybody)
            self.assertEqual(at_odds((many, ()), (0,) * many), everybody)
            self.assertEqual(at_odds((many, ()), (1,) * many), ())
            if many > 1:
                self.assertEqual(at_odds((many, all_edges(many)), (1,) * many), everybody)

    def test_nets_somewhat_beyond_the_bounds(self):
        self.assertEqual(at_odds((10, all_edges(10)), (1,) + (0,) * 9), ())
        self.assertEqual(at_odds((10, ()), (1,) * 9 + (0,)), (9,))


class Turned(unittest.TestCase):
    def test_written_ones(self):
        for net, crowd, hand, behind in (
                ((1, ()), (0,), 0, (1,)),
                ((2, ((0, 1),)), (0, 0), 0, (1, 0)),
                ((2, ((0, 1),)), (0, 0), 1, (0, 1)),
                ((2, ((0, 1),)), (1, 1), 0, (0, 1)),
                ((2, ((0, 1),)), (1, 1), 1, (1, 0)),
                (ROW, (1, 1, 0, 0), 0, (0, 1, 0, 0)),
                (ROW, (1, 1, 0, 0), 1, (1, 0, 0, 0)),
                (ROW, (1, 1, 0, 0), 3, (1, 1, 0, 1)),
        ):
            self.assertEqual(turned(net, crowd, hand), behind, (net, crowd, hand))

    def test_every_hand_at_odds_by_the_words(self):
        for net, crowd in nets_and_crowds():
            for hand in at_odds(net, crowd):
                behind = turned(net, crowd, hand)
                self.assertTrue(plain(behind), (net, crowd, hand))
                self.assertEqual(behind, crowd[:hand] + (1 - crowd[hand],) + crowd[hand + 1:], (net, crowd, hand))
                self.assertNotIn(hand, at_odds(net, behind), (net, crowd, hand))

    def test_not_now_of_a_hand_that_is_not_at_odds(self):
        for net, crowd in nets_and_crowds():
            for hand in range(net[0]):
                if not is_at_odds(net, crowd, hand):
                    self.assertRaises(NotNow, turned, net, crowd, hand)

    def test_not_now_of_hands_that_are_none_of_the_net(self):
        for net in small_nets(3) + greater_nets(2):
            for crowd in ((0,) * net[0], (1,) * net[0]):
                for hand in hands_not_there(net[0]):
                    self.assertRaises(NotNow, turned, net, crowd, hand)

    def test_truths_are_no_hands(self):
        for hand in (True, False):
            self.assertRaises(NotNow, turned, ROW, (0, 0, 0, 0), hand)

    def test_the_refusal_is_taken_by_the_classes_above_it(self):
        for above in (NotNow, ReelError, ValueError):
            for hand in (0, -1, 4, 10 ** 30):
                self.assertRaises(above, turned, ROW, (1, 0, 0, 0), hand)

    def test_nets_somewhat_beyond_the_bounds(self):
        self.assertEqual(turned((10, ()), (1,) * 9 + (0,), 9), (1,) * 10)


if __name__ == "__main__":
    unittest.main()
