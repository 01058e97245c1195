"""Points 0.2 (b), (c) and (d): from any state, with any picks and orders, a net is mended in time."""
import itertools
import unittest

from helping import Draw, beside, distances, greater_nets, small_nets, unlike_nets
from oddreel.colours import clashing, recoloured
from oddreel.crowds import at_odds, turned
from oddreel.errors import NotNow
from oddreel.far import far, round_far, wrong_far


def least(net, now, asked, move):
    return asked(net, now)[0]


def greatest(net, now, asked, move):
    return asked(net, now)[-1]


def most_left(net, now, asked, move):
    return max(asked(net, now), key=lambda hand: len(asked(net, move(net, now, hand))))


def most_left_greatest(net, now, asked, move):
    return max(reversed(asked(net, now)), key=lambda hand: len(asked(net, move(net, now, hand))))


def drawn(seed):
    draw = Draw(seed)
    return lambda net, now, asked, move: draw.one_of(asked(net, now))


def picks():
    return [least, greatest, most_left, most_left_greatest, drawn(5), drawn(2026)]


class Distances(unittest.TestCase):
    def orders(self, net, draw):
        hands = tuple(range(net[0]))
        # The hands far off first, and those that are near: the slowest order and the fastest one.
        near = tuple(sorted(hands, key=lambda hand: far(net)[hand]))
        return [
            lambda numbers: hands,
            lambda numbers: hands[::-1],
            lambda numbers: near,
            lambda numbers: near[::-1],
            lambda numbers: draw.shuffled(hands),
            lambda numbers: max([draw.shuffled(hands) for each in range(4)],
                                key=lambda order: len(wrong_far(net, round_far(net, numbers, order)))),
        ]

    def beginnings(self, net, draw):
        many = net[0]
        for number in (0, 1, many):
            yield (number,) * many
        yield tuple(range(many, 0, -1))
        for each in range(4):
            yield tuple([draw.below(many + 1) for hand in range(many)])

    def test_as_many_rounds_as_there_are_hands(self):
        draw = Draw(11)
        for net in small_nets() + greater_nets():
            for order in self.orders(net, draw):
                for begin in self.beginnings(net, draw):
                    numbers = begin
                    for each in range(net[0]):
                        numbers = round_far(net, numbers, order(numbers))
                    self.assertEqual(numbers, distances(net), (net, begin))
                    self.assertEqual(round_far(net, numbers, order(numbers)), numbers, (net, begin))

    def test_all_numbers_and_all_orders_of_unlike_nets(self):
        for many in range(1, 5):
            orders = list(itertools.permutations(range(many)))
            for net in unlike_nets(many, 1):
                reached = set(itertools.product(range(many + 1), repeat=many))
                for each in range(many):
                    reached = {round_far(net, numbers, order) for numbers in reached for order in orders}
                self.assertEqual(reached, {distances(net)}, net)

    def test_only_distances_are_right_everywhere(self):
        nets = small_nets() + [net for net in greater_nets(3) if net[0] == 5]
        for net in nets:
            for numbers in itertools.product(range(net[0] + 1), repeat=net[0]):
                self.assertEqual(wrong_far(net, numbers) == (), numbers == distances(net), (net, numbers))

    def test_only_distances_are_right_on_greater_nets(self):
        draw = Draw(12)
        for net in greater_nets():
            right = distances(net)
            self.assertEqual(wrong_far(net, right), (), net)
            for hand in range(net[0]):
                for number in range(net[0] + 1):
                    numbers = right[:hand] + (number,) + right[hand + 1:]
                    self.assertEqual(wrong_far(net, numbers) == (), numbers == right, (net, numbers))
            for numbers in self.beginnings(net, draw):
                self.assertEqual(wrong_far(net, numbers) == (), numbers == right, (net, numbers))


class Colours(unittest.TestCase):
    def bound(self, net):
        return net[0] + len(net[1])

    def check_at_rest(self, net, colours):
        for hand in range(net[0]):
            near = beside(net, hand)
            self.assertNotIn(colours[hand], [colours[other] for other in near], (net, colours))
            self.assertLessEqual(colours[hand], len(near), (net, colours))
            self.assertRaises(NotNow, recoloured, net, colours, hand)

    def check_run(self, net, begin, pick):
        colours = begin
        moves = 0
        while clashing(net, colours):
            self.assertLess(moves, self.bound(net), (net, begin))
            colours = recoloured(net, colours, pick(net, colours, clashing, recoloured))
            moves += 1
        self.check_at_rest(net, colours)

    def beginnings(self, net):
        many = net[0]
        for colour in (0, 1, 9, 10 ** 30):
            yield (colour,) * many
        yield tuple(range(many))
        yield tuple([10 ** 30 + hand for hand in range(many)])
        draw = Draw(many + 100 * len(net[1]))
        for limit in (2, 3, many, 10):
            yield tuple([draw.below(limit) for hand in range(many)])

    def test_ways_to_pick(self):
        for net in small_nets() + greater_nets():
            for pick in picks():
                for begin in self.beginnings(net):
                    self.check_run(net, begin, pick)

    def longest(self, net, colours, known):
        if colours not in known:
            known[colours] = None
            hands = clashing(net, colours)
            if not hands:
                self.check_at_rest(net, colours)
            known[colours] = max([1 + self.longest(net, recoloured(net, colours, hand), known) for hand in hands],
                                 default=0)
        # Colours that are met again on their own way could go round for ever.
        self.assertIsNotNone(known[colours], (net, colours))
        return known[colours]

    def test_no_picks_at_all_take_longer(self):
        # A colour from many on is too great wherever it stands, so with as many of these as there are hands
        # every case is there: who has such a colour, and which of them are alike.
        for many in range(1, 5):
            for net in unlike_nets(many):
                known = {}
                for colours in itertools.product(range(2 * many), repeat=many):
                    self.assertLessEqual(self.longest(net, colours, known), self.bound(net), (net, colours))


class Crowds(unittest.TestCase):
    def check_whole(self, net, crowd):
        for hand in range(net[0]):
            inside = [other for other in beside(net, hand) if crowd[other] == 1]
            self.assertEqual(crowd[hand] == 1, inside == [], (net, crowd))
            self.assertRaises(NotNow, turned, net, crowd, hand)

    def check_run(self, net, begin, pick):
        crowd = begin
        moves = [0] * net[0]
        while at_odds(net, crowd):
            hand = pick(net, crowd, at_odds, turned)
            moves[hand] += 1
            self.assertLessEqual(moves[hand], 2, (net, begin))
            crowd = turned(net, crowd, hand)
        self.check_whole(net, crowd)

    def beginnings(self, net):
        many = net[0]
        if many < 5:
            yield from itertools.product((0, 1), repeat=many)
            return
        yield (0,) * many
        yield (1,) * many
        draw = Draw(many + 10 * len(net[1]))
        for each in range(10):
            yield tuple([draw.below(2) for hand in range(many)])

    def test_ways_to_pick(self):
        for net in small_nets() + greater_nets():
            for pick in picks():
                for begin in self.beginnings(net):
                    self.check_run(net, begin, pick)

    def check_all_picks(self, net, begin):
        first = (begin, (0,) * net[0])
        met = {first}
        left = [first]
        while left:
            crowd, moves = left.pop()
            hands = at_odds(net, crowd)
            if not hands:
                self.check_whole(net, crowd)
            for hand in hands:
                self.assertLess(moves[hand], 2, (net, begin))
                behind = (turned(net, crowd, hand), moves[:hand] + (moves[hand] + 1,) + moves[hand + 1:])
                if behind not in met:
                    met.add(behind)
                    left.append(behind)

    def test_no_picks_at_all_let_a_hand_move_three_times(self):
        for many in range(1, 6):
            for net in unlike_nets(many):
                for begin in itertools.product((0, 1), repeat=many):
                    self.check_all_picks(net, begin)


if __name__ == "__main__":
    unittest.main()
