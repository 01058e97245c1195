"""What rings and nets have in common: a hand that is picked, and its number."""

from oddreel.things import is_whole


def is_among(hand, hands):
    # True == 1 would else let a truth pass for hand 1.
    return is_whole(hand) and hand in hands


def with_number(numbers, hand, number):
    # No slices: a hand that is not there, below 0 too, leaves the numbers as they are.
    return tuple([number if at == hand else numbers[at] for at in range(len(numbers))])
