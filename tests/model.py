"""What the tests share: a model of a rule, wrong values, and checks of calls."""

import copy
import random
import unittest

from goesnext.errors import GoesError

WRONG_KINDS = [None, True, False, 0, 3, -1, 10 ** 30, "", "0 1", "[0, 1]", (), (0, 1), {}, {"0": 0}, [[]], [None]]


def drawn(seed):
    return random.Random(seed)


def draw_permutation(rng, size):
    return rng.sample(range(size), size)


def draw_rule(rng, k):
    return [draw_permutation(rng, k) for _ in range(k)]


def draw_row(rng, k):
    pool = [0, 1, 2, 3, 10 ** 9, 10 ** 9 - 1] + [rng.randint(0, 10 ** 9) for _ in range(40)]
    return rng.sample(sorted(set(pool)), k)


def nearly(rng, rule):
    """The rule with two items of one of its permutations changed."""
    other = copy.deepcopy(rule)
    moves = rng.choice(other)
    i, j = rng.sample(range(len(rule)), 2)
    moves[i], moves[j] = moves[j], moves[i]
    return other


def model_outcomes(rule, row, stream):
    """The outcomes by [5], with a dict from the blocks to their places."""
    places = {block: place for place, block in enumerate(row)}
    outcomes = []
    for block in stream:
        hit = block in places
        outcomes.append(hit)
        if hit:
            moves = rule[places[block]]
            places = {item: moves[place] for item, place in places.items()}
        else:
            places = {item: place - 1 for item, place in places.items() if place > 0}
            places[block] = len(rule) - 1
    return outcomes


def lists_in(value):
    if isinstance(value, (list, tuple)):
        found = [value] if isinstance(value, list) else []
        for item in value:
            found += lists_in(item)
        return found
    return []


class CallTest(unittest.TestCase):
    """Checks that hold for every call."""

    def steady(self, call, *args):
        """The result of a call that changes no argument, keeps none, and gives new lists each time."""
        before = copy.deepcopy(args)
        first = call(*args)
        again = call(*args)
        self.assertEqual(repr(before), repr(args))
        self.assertEqual(repr(first), repr(again))
        told = copy.deepcopy(first)
        lists = lists_in(first) + lists_in(again) + lists_in(list(args))[1:]
        own = len(lists_in(first)) + len(lists_in(again))
        self.assertEqual(len({id(item) for item in lists[:own]}), own)
        self.assertFalse({id(item) for item in lists[:own]} & {id(item) for item in lists[own:]})
        for item in lists[:own]:
            item.append("changed")
        self.assertEqual(repr(before), repr(args))
        self.assertEqual(repr(told), repr(call(*args)))
        return told

    def fails(self, kind, fields, call, *args, **named):
        """The call raises just this class with just these fields, and changes no argument."""
        before = repr((args, named))
        with self.assertRaises(GoesError) as caught:
            call(*args, **named)
        self.assertIs(type(caught.exception), kind)
        self.assertEqual(repr(vars(caught.exception)), repr(fields))
        self.assertEqual(before, repr((args, named)))
