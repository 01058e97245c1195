import itertools
import unittest

from oddreel.errors import NotNow, ReelError
from oddreel.marks import marked, moved, shifted
from oddreel.things import is_state

SMALL_RINGS = [(2, 2), (2, 5), (3, 3), (3, 4), (4, 4), (4, 5)]


def states(many, size):
    return itertools.product(range(size), repeat=many)


def some_states():
    # All states of small rings, and some of every other ring.
    for many, size in SMALL_RINGS:
        for state in states(many, size):
            yield state, size
    for many in range(2, 9):
        for size in (many, many + 1, 20):
            for step in range(size):
                yield tuple([(step * hand + hand * hand + step) % size for hand in range(many)]), size
                yield (step,) * many, size


def plain(thing):
    return isinstance(thing, tuple) and all(isinstance(part, int) and not isinstance(part, bool) for part in thing)


class Marked(unittest.TestCase):
    def test_written_ones(self):
        for state, hands in (
                ((0, 0), (0,)),
                ((0, 1), (1,)),
                ((1, 0), (1,)),
                ((3, 3, 3), (0,)),
                ((4, 3, 3), (1,)),
                ((4, 4, 3), (2,)),
                ((0, 1, 0), (0, 1, 2)),
                ((0, 1, 2), (1, 2)),
                ((0, 0, 1, 1), (2,)),
                ((2, 5, 5, 2), (0, 1, 3)),
                ((0, 19, 0, 19, 0, 19, 0, 19), (1, 2, 3, 4, 5, 6, 7)),
                ((7, 6, 5, 4, 3, 2, 1, 7), (0, 1, 2, 3, 4, 5, 6, 7)),
        ):
            self.assertEqual(marked(state), hands, state)

    def test_each_hand_by_the_words(self):
        for state, size in some_states():
            hands = marked(state)
            self.assertTrue(plain(hands), state)
            self.assertEqual(hands, marked(state))
            for hand in range(len(state)):
                if hand == 0:
                    has = state[0] == state[-1]
                else:
                    has = state[hand] != state[hand - 1]
                self.assertEqual(hand in hands, has, (state, hand))

    def test_rising_and_never_empty(self):
        for state, size in some_states():
            hands = marked(state)
            self.assertGreaterEqual(len(hands), 1, state)
            self.assertEqual(hands, tuple(sorted(set(hands))), state)
            self.assertTrue(set(hands) <= set(range(len(state))), state)

    def test_rings_somewhat_beyond_the_bounds(self):
        self.assertEqual(marked((4,)), (0,))
        self.assertEqual(marked((1,) * 9 + (2,)), (9,))


class Moved(unittest.TestCase):
    def test_hand_0_becomes_one_more(self):
        self.assertEqual(moved((3, 3, 3), 5, 0), (4, 3, 3))
        self.assertEqual(moved((2, 5, 2), 6, 0), (3, 5, 2))
        self.assertEqual(moved((0, 0), 2, 0), (1, 0))

    def test_hand_0_goes_to_0_behind_size_less_1(self):
        for many in range(2, 9):
            for size in range(many, 21):
                last = (size - 1,) * many
                self.assertEqual(moved(last, size, 0), (0,) + last[1:])
                ahead = (size - 2,) * many
                self.assertEqual(moved(ahead, size, 0), (size - 1,) + ahead[1:])

    def test_each_other_hand_takes_the_number_ahead_of_it(self):
        self.assertEqual(moved((4, 3, 3), 5, 1), (4, 4, 3))
        self.assertEqual(moved((4, 4, 3), 5, 2), (4, 4, 4))
        self.assertEqual(moved((0, 1, 2, 3), 4, 3), (0, 1, 2, 2))
        self.assertEqual(moved((0, 19, 0, 19, 0, 19, 0, 5), 20, 7), (0, 19, 0, 19, 0, 19, 0, 0))

    def test_every_marked_hand_by_the_words(self):
        for state, size in some_states():
            for hand in marked(state):
                behind = moved(state, size, hand)
                self.assertTrue(plain(behind) and is_state(behind, size), (state, size, hand))
                self.assertEqual(behind, moved(state, size, hand))
                for other in range(len(state)):
                    if other != hand:
                        number = state[other]
                    elif hand == 0:
                        number = 0 if state[0] == size - 1 else state[0] + 1
                    else:
                        number = state[hand - 1]
                    self.assertEqual(behind[other], number, (state, size, hand))

    def test_a_hand_that_has_moved_has_no_mark(self):
        for state, size in some_states():
            for hand in marked(state):
                self.assertNotIn(hand, marked(moved(state, size, hand)), (state, size, hand))

    def test_not_now_without_a_mark(self):
        for state, size in some_states():
            for hand in range(len(state)):
                if hand not in marked(state):
                    self.assertRaises(NotNow, moved, state, size, hand)

    def test_not_now_of_hands_that_are_none_of_the_ring(self):
        for state, size in some_states():
            many = len(state)
            for hand in (-1, -many, -many - 1, many, many + 1, 1000, 10 ** 30):
                self.assertRaises(NotNow, moved, state, size, hand)

    def test_not_now_of_a_hand_too_long_to_write_out(self):
        for hand in (10 ** 6000, -10 ** 6000):
            self.assertRaises(NotNow, moved, (0, 1, 0), 3, hand)

    def test_truths_are_no_hands(self):
        for hand in (True, False):
            self.assertRaises(NotNow, moved, (0, 1, 0), 3, hand)

    def test_rings_somewhat_beyond_the_bounds(self):
        self.assertEqual(moved((24,) * 10, 25, 0), (0,) + (24,) * 9)
        self.assertEqual(moved((1,) * 9 + (22,), 25, 9), (1,) * 10)
        self.assertEqual(moved((0, 0, 0), 2, 0), (1, 0, 0))

    def test_the_refusal_is_taken_by_the_classes_above_it(self):
        for above in (NotNow, ReelError, ValueError):
            for hand in (1, -1, 2, 10 ** 30):
                self.assertRaises(above, moved, (5, 5), 7, hand)


class Shifted(unittest.TestCase):
    def test_written_ones(self):
        for state, size, by, behind in (
                ((0, 1, 2), 3, 0, (0, 1, 2)),
                ((0, 1, 2), 3, 1, (1, 2, 0)),
                ((0, 1, 2), 3, -1, (2, 0, 1)),
                ((0, 1, 2), 3, 3, (0, 1, 2)),
                ((0, 1, 2), 3, -3, (0, 1, 2)),
                ((0, 19), 20, 1, (1, 0)),
                ((0, 19), 20, -1, (19, 18)),
                ((0, 19), 20, 20 * 10 ** 40 + 7, (7, 6)),
                ((0, 19), 20, -20 * 10 ** 40 - 7, (13, 12)),
                ((4, 4, 3, 0, 1), 5, 1003, (2, 2, 1, 3, 4)),
        ):
            self.assertEqual(shifted(state, size, by), behind, (state, size, by))

    def test_each_number_by_the_words(self):
        for state, size in some_states():
            for by in (0, 1, -1, 3, -7, size, -size, size + 1, 12345, -12345, 10 ** 30, -10 ** 30):
                behind = shifted(state, size, by)
                self.assertTrue(plain(behind) and is_state(behind, size), (state, size, by))
                self.assertEqual(behind, shifted(state, size, by))
                for number, after in zip(state, behind, strict=True):
                    self.assertEqual((after - number - by) % size, 0, (state, size, by))

    def test_the_marks_stay_the_same(self):
        for state, size in some_states():
            for by in (0, 1, -1, 5, -size, 10 ** 30, -10 ** 30 - 1):
                self.assertEqual(marked(shifted(state, size, by)), marked(state), (state, size, by))

    def test_moving_and_shifting_in_either_order(self):
        for state, size in some_states():
            for hand in marked(state):
                for by in (1, -2, 10 ** 30):
                    self.assertEqual(shifted(moved(state, size, hand), size, by),
                                     moved(shifted(state, size, by), size, hand), (state, size, hand, by))

    def test_by_0_and_back_again(self):
        for state, size in some_states():
            self.assertEqual(shifted(state, size, 0), state)
            self.assertEqual(shifted(shifted(state, size, 17), size, -17), state)


if __name__ == "__main__":
    unittest.main()
