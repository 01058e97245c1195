"""Over the whole program: the interface, point 0.3, and point 0.2 (e)."""
import copy
import importlib
import inspect
import itertools
import unittest

from helping import (Draw, beside, drawn_nets, greater_nets, plain, renamed_hands, renamed_net, renamed_numbers,
                     shaped_nets, small_nets)
from oddreel.colours import clashing, recoloured
from oddreel.crowds import at_odds, turned
from oddreel.errors import NotNow
from oddreel.far import far, mended_far, round_far, wrong_far
from oddreel.marks import marked, moved, shifted
from oddreel.nets import neighbours
from oddreel.things import is_net, is_state

INTERFACE = {
    "things": {"is_state": ["thing", "size"], "is_net": ["thing"]},
    "marks": {"marked": ["state"], "moved": ["state", "size", "hand"], "shifted": ["state", "size", "by"]},
    "nets": {"neighbours": ["net", "hand"]},
    "far": {"wrong_far": ["net", "numbers"], "mended_far": ["net", "numbers", "hand"],
            "round_far": ["net", "numbers", "order"], "far": ["net"]},
    "colours": {"clashing": ["net", "colours"], "recoloured": ["net", "colours", "hand"]},
    "crowds": {"at_odds": ["net", "crowd"], "turned": ["net", "crowd", "hand"]},
}


def numbers_below(draw, limit, many):
    return tuple([draw.below(limit) for hand in range(many)])


def picked_nets():
    shaped = [net for many in range(1, 9) for net in shaped_nets(many)]
    return shaped + [net for many in range(3, 9) for net in drawn_nets(many, 7)]


def apart(net):
    return [(one, other) for one, other in itertools.combinations(range(net[0]), 2) if other not in beside(net, one)]


class Interface(unittest.TestCase):
    def test_each_name_and_its_arguments(self):
        for name, functions in INTERFACE.items():
            module = importlib.import_module("oddreel." + name)
            for function, arguments in functions.items():
                with self.subTest(function=function):
                    told = inspect.signature(getattr(module, function)).parameters.values()
                    self.assertEqual([argument.name for argument in told], arguments)
                    for argument in told:
                        self.assertEqual(argument.kind, argument.POSITIONAL_OR_KEYWORD)

    def test_not_now_is_there_where_it_is_raised(self):
        for name in ("marks", "colours", "crowds"):
            self.assertIs(importlib.import_module("oddreel." + name).NotNow, NotNow)


def asks_of_rings():
    draw = Draw(21)
    for many in range(2, 9):
        for size in (many, many + 1, 20):
            for each in range(5):
                state = numbers_below(draw, size, many)
                yield marked, (state,)
                yield shifted, (state, size, draw.below(100) - 50)
                for hand in range(-1, many + 1):
                    yield moved, (state, size, hand)


def asks_of_nets():
    draw = Draw(22)
    for net in picked_nets():
        many = net[0]
        numbers = numbers_below(draw, many + 1, many)
        colours = numbers_below(draw, many + 2, many)
        crowd = numbers_below(draw, 2, many)
        yield far, (net,)
        yield wrong_far, (net, numbers)
        yield round_far, (net, numbers, draw.shuffled(range(many)))
        yield clashing, (net, colours)
        yield at_odds, (net, crowd)
        for hand in range(many):
            yield neighbours, (net, hand)
            yield mended_far, (net, numbers, hand)
        for hand in range(-1, many + 1):
            yield recoloured, (net, colours, hand)
            yield turned, (net, crowd, hand)


def answer(function, handed):
    try:
        return function(*handed)
    except NotNow:
        return "NotNow"


def rebuilt(thing):
    # Equal parts in other tuples; tuple(..) by itself would give back the same one.
    return tuple([rebuilt(part) for part in list(thing)]) if isinstance(thing, tuple) else thing


class ThingsAndAnswers(unittest.TestCase):
    def test_asked_the_same_again_the_same_is_told(self):
        asks = list(asks_of_rings()) + list(asks_of_nets())
        first = [answer(function, handed) for function, handed in asks]
        # Backwards, so that each one is asked again behind others than before.
        again = [answer(function, rebuilt(handed)) for function, handed in reversed(asks)]
        self.assertEqual(first, again[::-1])

    def test_tuples_and_whole_numbers_alone(self):
        for function, handed in itertools.chain(asks_of_rings(), asks_of_nets()):
            told = answer(function, handed)
            self.assertTrue(told == "NotNow" or (told.__class__ is tuple and plain(told)), (function, handed, told))

    def test_what_is_handed_in_is_not_changed(self):
        for function, handed in itertools.chain(asks_of_rings(), asks_of_nets()):
            before = repr(handed)
            answer(function, handed)
            self.assertEqual(repr(handed), before, function)

    def test_lists_within_what_is_handed_in_are_not_changed(self):
        # Only these two take any thing at all.
        for thing in ([2, 1], (2, [1]), [2, [[0, 1]]], (2, [(1, 0), (0, 1)]), (2, ([1, 0], [0, 1])), ([2], ([0],))):
            before = copy.deepcopy(thing)
            self.assertEqual((is_state(thing, 5), is_net(thing)), (False, False))
            self.assertEqual((is_state(thing, 5), is_net(thing)), (False, False))
            self.assertEqual(repr(thing), repr(before))

    def test_what_is_told_of_nets_and_rings_is_of_their_kind(self):
        for function, handed in itertools.chain(asks_of_rings(), asks_of_nets()):
            told = answer(function, handed)
            if function in (moved, shifted) and told != "NotNow":
                self.assertTrue(is_state(told, handed[1]), (function, handed))
            if function in (far, mended_far, round_far):
                many = handed[0][0]
                self.assertEqual(len(told), many, (function, handed))
                self.assertTrue(all(0 <= number <= many for number in told), (function, handed))


class EitherOrder(unittest.TestCase):
    def check(self, move, now, one, other):
        self.assertEqual(move(move(now, one), other), move(move(now, other), one), (now, one, other))

    def check_ring(self, state, size):
        many = len(state)
        for one, other in itertools.combinations(marked(state), 2):
            if other - one not in (1, many - 1):
                self.check(lambda now, hand: moved(now, size, hand), state, one, other)

    def test_all_states_of_small_rings(self):
        for many, size in ((4, 4), (4, 5), (5, 5)):
            for state in itertools.product(range(size), repeat=many):
                self.check_ring(state, size)

    def test_some_states_of_every_ring(self):
        draw = Draw(31)
        for many in range(4, 9):
            for size in range(many, 21):
                for each in range(10):
                    self.check_ring(numbers_below(draw, size, many), size)
                self.check_ring((1,) + tuple(range(2, many)) + (1,), size)

    def check_net(self, net, numbers, colours, crowd):
        clash = clashing(net, colours)
        odd = at_odds(net, crowd)
        for one, other in apart(net):
            self.check(lambda now, hand: mended_far(net, now, hand), numbers, one, other)
            if one in clash and other in clash:
                self.check(lambda now, hand: recoloured(net, now, hand), colours, one, other)
            if one in odd and other in odd:
                self.check(lambda now, hand: turned(net, now, hand), crowd, one, other)

    def test_all_states_of_small_nets(self):
        for net in small_nets(3):
            many = net[0]
            for colours in itertools.product(range(many + 2), repeat=many):
                numbers = tuple([min(colour, many) for colour in colours])
                crowd = tuple([colour % 2 for colour in colours])
                self.check_net(net, numbers, colours, crowd)

    def test_some_states_of_nets(self):
        draw = Draw(32)
        for net in small_nets() + greater_nets():
            many = net[0]
            for limit in (1, 2, 3, many + 1, many + 2):
                self.check_net(net, numbers_below(draw, many + 1, many), numbers_below(draw, limit, many),
                               numbers_below(draw, min(limit, 2), many))

    def test_rounds_with_two_hands_that_stand_apart_exchanged(self):
        draw = Draw(33)
        for net in picked_nets():
            for one, other in apart(net):
                rest = draw.shuffled([hand for hand in range(net[0]) if hand not in (one, other)])
                at = draw.below(len(rest) + 1)
                numbers = numbers_below(draw, net[0] + 1, net[0])
                self.assertEqual(round_far(net, numbers, rest[:at] + (one, other) + rest[at:]),
                                 round_far(net, numbers, rest[:at] + (other, one) + rest[at:]), (net, numbers))


class OtherNumbersOfHands(unittest.TestCase):
    def check_moves(self, ask, move, net, now, names):
        again = renamed_net(net, names)
        after = renamed_numbers(now, names)
        self.assertEqual(ask(again, after), renamed_hands(ask(net, now), names), (net, now, names))
        for hand in range(net[0]):
            told = answer(move, (net, now, hand))
            if told != "NotNow":
                told = renamed_numbers(told, names)
            self.assertEqual(answer(move, (again, after, names[hand])), told, (net, now, names, hand))

    def check_colours_and_crowds(self, net, colours, names):
        self.check_moves(clashing, recoloured, net, colours, names)
        self.check_moves(at_odds, turned, net, tuple([colour % 2 for colour in colours]), names)

    def check_far(self, net, numbers, names):
        again = renamed_net(net, names)
        self.assertEqual(far(again), renamed_numbers(far(net), names), (net, names))
        self.check_moves(wrong_far, mended_far, net, numbers, names)
        order = tuple(range(net[0]))
        self.assertEqual(round_far(again, renamed_numbers(numbers, names), tuple([names[hand] for hand in order])),
                         renamed_numbers(round_far(net, numbers, order), names), (net, numbers, names))

    def test_all_names_of_small_nets(self):
        draw = Draw(41)
        for net in small_nets():
            many = net[0]
            for names in itertools.permutations(range(many)):
                for limit in (1, 2, many + 2):
                    self.check_colours_and_crowds(net, numbers_below(draw, limit, many), names)
                if names[0] == 0:
                    for each in range(3):
                        self.check_far(net, numbers_below(draw, many + 1, many), names)

    def test_some_names_of_greater_nets(self):
        draw = Draw(42)
        for net in greater_nets():
            many = net[0]
            for limit in (1, 2, 3, many, many + 2):
                self.check_colours_and_crowds(net, numbers_below(draw, limit, many), draw.shuffled(range(many)))
                names = (0,) + draw.shuffled(range(1, many))
                self.check_far(net, numbers_below(draw, many + 1, many), names)


if __name__ == "__main__":
    unittest.main()
