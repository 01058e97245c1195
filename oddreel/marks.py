"""The mark on a ring: who has it, and how it goes on."""

from oddreel.errors import NotNow
from oddreel.hands import is_among, with_number


def has_mark(state, hand):
    if hand == 0:
        return state[0] == state[len(state) - 1]
    return state[hand] != state[hand - 1]


def marked(state):
    return tuple([hand for hand in range(len(state)) if has_mark(state, hand)])


def one_more(number, size):
    return 0 if number == size - 1 else number + 1


def moved(state, size, hand):
    if not is_among(hand, marked(state)):
        # The hand is left out of the words: Python refuses to write out very long numbers.
        raise NotNow("this hand has no mark")
    number = one_more(state[0], size) if hand == 0 else state[hand - 1]
    return with_number(state, hand, number)


def shifted(state, size, by):
    return tuple([(number + by) % size for number in state])
