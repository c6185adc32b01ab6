"""What the tests share: a model of a rule, wrong values, and checks of calls."""

import copy
import random
import unittest

from goesnext.errors import GoesError

WRONG_KINDS = [None, True, False, 0, 3, -1, 10 ** 30, "", "0 1", "[0, 1]", (), (0, 1), {}, {"0": 0}, [[]], [None]]
NO_RULE = [(value, None) for value in WRONG_KINDS] + [
    ([], None), ([[0]], None), ([[0, 1]], None), (([0, 1], [0, 1]), None), ({"0": [0, 1]}, None), ("[[0]]", None),
    ([list(range(13)) for _ in range(13)], None),
    ([[0, 1], [0, 0]], 1), ([[0, 2], [0, 1]], 0), ([[0, 1], (0, 1)], 1), ([[0, True], [0, 1]], 0), ([0, 1], 0),
    ([[0, 1], [0, 1, 2]], 1), ([[0], [0, 1]], 0), ([[0, 1, 2], [0, 1, 2]], 0), ([[0, 1], None], 1),
    ([[0, 1, 2], [0, 1, 2], [0, 1]], 2), ([[0, 1, 2], [0, 1, -1], [0, 1]], 1), ([[0, 1], "01"], 1),
]
NO_ROW = [(value, None) for value in WRONG_KINDS if not (isinstance(value, list) and len(value) == 2)] + [
    ([], None), ([5], None), ([5, 6, 7], None), ((5, 6), None), ("56", None),
    ([5, 5], 1), ([-1, 5], 0), ([5, -1], 1), ([5, 10 ** 9 + 1], 1), ([10 ** 9 + 1, 5], 0), ([True, 5], 0),
    ([5, False], 1), ([0, False], 1), ([1, True], 1), ([5, None], 1), (["5", 6], 0), ([[5], 6], 0), ([5, (6,)], 1),
    ([None, None], 0), ([5, {}], 1),
]
NO_STREAM = [(value, None) for value in WRONG_KINDS if not isinstance(value, list)] + [
    ((5, 6), None), ("5", None), ([-1], 0), ([5, 10 ** 9 + 1], 1), ([5, 5, True], 2), ([False], 0), ([5, None], 1),
    ([5, "6", -1], 1), ([[5]], 0), ([5, (5,)], 1), ([5, 6, 7, {}], 3), ([5] * 400 + [-1], 400),
]


def drawn(seed):
    return random.Random(seed)


def draw_permutation(rng, size):
    return rng.sample(range(size), size)


def draw_rule(rng, k):
    return [draw_permutation(rng, k) for _ in range(k)]


def draw_row(rng, k):
    pool = [0, 1, 2, 3, 10 ** 9, 10 ** 9 - 1] + [rng.randint(0, 10 ** 9) for _ in range(40)]
    return rng.sample(sorted(set(pool)), k)


def nearly(rng, rule):
    """The rule with two items of one of its permutations changed."""
    other = copy.deepcopy(rule)
    moves = rng.choice(other)
    i, j = rng.sample(range(len(rule)), 2)
    moves[i], moves[j] = moves[j], moves[i]
    return other


class ModelCache:
    """A cache by [5], with a dict from the blocks to their places and the lines beside it."""

    def __init__(self, rule, row):
        self.rule = rule
        self.places = {block: place for place, block in enumerate(row)}
        self.lines = list(row)
        self.outcomes = []
        self.gone = []

    def access(self, block):
        hit = block in self.places
        self.outcomes.append(hit)
        if hit:
            moves = self.rule[self.places[block]]
            self.places = {item: moves[place] for item, place in self.places.items()}
        else:
            old = self.row()[0]
            self.gone.append(old)
            self.lines = [block if item == old else item for item in self.lines]
            self.places = {item: place - 1 for item, place in self.places.items() if item != old}
            self.places[block] = len(self.rule) - 1

    def row(self):
        return sorted(self.places, key=self.places.get)


def ran(rule, row, stream):
    """A model cache behind the stream."""
    cache = ModelCache(rule, row)
    for block in stream:
        cache.access(block)
    return cache


def model_outcomes(rule, row, stream):
    return ran(rule, row, stream).outcomes


class BitTree:
    """Lines with a tree of bits over them; each bit points to the half that goes next."""

    def __init__(self, blocks):
        self.blocks = list(blocks)
        self.bits = {}

    def pointed(self):
        low, size = 0, len(self.blocks)
        while size > 1:
            size //= 2
            low += size * self.bits.get((low, size), 0)
        return low

    def turn_away(self, line):
        low, size = 0, len(self.blocks)
        while size > 1:
            size //= 2
            upper = line >= low + size
            self.bits[(low, size)] = 0 if upper else 1
            low += size * upper

    def access(self, block):
        hit = block in self.blocks
        line = self.blocks.index(block) if hit else self.pointed()
        self.blocks[line] = block
        self.turn_away(line)
        return hit

    def row(self):
        """The blocks in the order in which misses would take them out."""
        twin = BitTree(self.blocks)
        twin.bits = dict(self.bits)
        found = []
        for new in range(len(self.blocks)):
            found.append(self.blocks[twin.pointed()])
            twin.access(f"new {new}")
        return found


def lists_in(value):
    if isinstance(value, (list, tuple)):
        found = [value] if isinstance(value, list) else []
        for item in value:
            found += lists_in(item)
        return found
    return []


class CallTest(unittest.TestCase):
    """Checks that hold for every call."""

    def steady(self, call, *args):
        """The result of a call that changes no argument, keeps none, and gives new lists each time."""
        before = copy.deepcopy(args)
        first = call(*args)
        again = call(*args)
        self.assertEqual(repr(before), repr(args))
        self.assertEqual(repr(first), repr(again))
        told = copy.deepcopy(first)
        lists = lists_in(first) + lists_in(again) + lists_in(list(args))[1:]
        own = len(lists_in(first)) + len(lists_in(again))
        self.assertEqual(len({id(item) for item in lists[:own]}), own)
        self.assertFalse({id(item) for item in lists[:own]} & {id(item) for item in lists[own:]})
        for item in lists[:own]:
            item.append("changed")
        self.assertEqual(repr(before), repr(args))
        self.assertEqual(repr(told), repr(call(*args)))
        return told

    def fails(self, kind, fields, call, *args, **named):
        """The call raises just this class with just these fields, and changes no argument."""
        before = repr((args, named))
        with self.assertRaises(GoesError) as caught:
            call(*args, **named)
        self.assertIs(type(caught.exception), kind)
        self.assertEqual(repr(vars(caught.exception)), repr(fields))
        self.assertEqual(before, repr((args, named)))
