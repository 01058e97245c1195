"""Point 0.2 (a): from any state, with any picks, a ring comes to one mark alone, and keeps it."""
import itertools
import unittest

from helping import Draw
from oddreel.marks import marked, moved, shifted


def bound(many):
    return 3 * many * (many - 1) // 2


def least(state, size):
    return marked(state)[0]


def greatest(state, size):
    return marked(state)[-1]


def most_marks(state, size):
    return max(marked(state), key=lambda hand: len(marked(moved(state, size, hand))))


def most_marks_greatest(state, size):
    return max(reversed(marked(state)), key=lambda hand: len(marked(moved(state, size, hand))))


def drawn(seed):
    draw = Draw(seed)

    def pick(state, size):
        hands = marked(state)
        return hands[draw.below(len(hands))]

    return pick


def picks():
    return [least, greatest, most_marks, most_marks_greatest, drawn(1), drawn(2026)]


def beginnings(many, size, how_many):
    yield (0,) * many
    yield (size - 1,) * many
    yield tuple(range(many))
    yield tuple(range(many - 1, -1, -1))
    yield tuple([(0, size - 1)[hand % 2] for hand in range(many)])
    # From three hands on every hand has a mark here.
    yield (many - 1,) + tuple(range(many - 2, 0, -1)) + (many - 1,)
    draw = Draw(many * 100 + size)
    for each in range(how_many):
        yield tuple([draw.below(size) for hand in range(many)])


class Mending(unittest.TestCase):
    def check_one_mark_goes_round(self, state, size):
        many = len(state)
        for circle in range(2):
            begin = state
            for step in range(many):
                hands = marked(state)
                self.assertEqual(len(hands), 1, (state, size))
                state = moved(state, size, hands[0])
                self.assertEqual(marked(state), ((hands[0] + 1) % many,), (state, size))
            self.assertEqual(state, shifted(begin, size, 1))

    def check_run(self, state, size, pick):
        begin = state
        alone = False
        for step in range(bound(len(state))):
            hands = marked(state)
            self.assertGreaterEqual(len(hands), 1, (begin, size))
            if alone:
                self.assertEqual(len(hands), 1, (begin, size))
            alone = len(hands) == 1
            state = moved(state, size, pick(state, size))
        self.check_one_mark_goes_round(state, size)

    def test_all_beginnings_of_small_rings(self):
        for many, size in ((2, 2), (2, 3), (2, 20), (3, 3), (3, 5), (4, 4)):
            for state in itertools.product(range(size), repeat=many):
                for pick in picks():
                    self.check_run(state, size, pick)

    def test_many_beginnings_of_every_ring(self):
        for many in range(2, 9):
            for size in range(many, 21):
                for pick in picks():
                    for state in beginnings(many, size, 6):
                        self.check_run(state, size, pick)

    def test_from_each_state_with_one_mark(self):
        for many in range(2, 9):
            for size in range(many, 21):
                for number in range(size):
                    for ahead in range(many):
                        state = ((number + 1) % size,) * ahead + (number,) * (many - ahead)
                        self.check_one_mark_goes_round(state, size)


class AllPicks(unittest.TestCase):
    def longest(self, state, size, known):
        # Marks don't change under a shift, so one state stands for all its shifts.
        state = shifted(state, size, -state[0])
        if state not in known:
            hands = marked(state)
            self.assertGreaterEqual(len(hands), 1, state)
            known[state] = None
            if len(hands) == 1:
                known[state] = 0
            else:
                known[state] = 1 + max([self.longest(moved(state, size, hand), size, known) for hand in hands])
        # A state that is met again on its own way could go round for ever.
        self.assertIsNotNone(known[state], (state, size))
        return known[state]

    def test_no_picks_at_all_take_longer(self):
        for many, size in ((2, 2), (2, 20), (3, 3), (3, 7), (3, 20), (4, 4), (4, 5), (4, 9), (5, 5), (5, 6), (6, 6)):
            known = {}
            for rest in itertools.product(range(size), repeat=many - 1):
                self.assertLessEqual(self.longest((0,) + rest, size, known), bound(many), (rest, size))


if __name__ == "__main__":
    unittest.main()
