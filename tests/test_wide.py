"""Wide rules: [2], [3], [8] and the interface of goesnext.wide."""

import copy
import itertools
import unittest

from goesnext.errors import (InvalidPermutation, InvalidRow, InvalidRule, InvalidStream, InvalidWide, NotWhole,
                             OtherSize)
from goesnext.rules import climbing, first_in, last_used, tree
from goesnext.wide import is_wide, normal, numbers, stuck_places, wide_alike, wide_of, wide_outcomes
from model import (NO_ROW, NO_RULE, NO_STREAM, WRONG_KINDS, CallTest, draw_permutation, draw_row, draw_rule, drawn,
                   model_outcomes)

STILL = [[0, 1, 2], [0, 1, 2], [0, 1, 2]]
QUEUE = (STILL, [1, 2, 0], 2)
TWO = [[0, 1], [1, 0]]
NO_WIDE = WRONG_KINDS + [
    [], (TWO, [0, 1]), (TWO,), (TWO, [1, 0], 0, 0), [TWO, [1, 0], 0], (TWO, [1, 0], None), (TWO, [1, 0], True),
    (TWO, [1, 0], False), (TWO, [1, 0], 2), (TWO, [1, 0], -1), (TWO, [1, 0], "0"), (TWO, [1, 0], [0]),
    (TWO, [1, 0], 10 ** 20), (TWO, (1, 0), 0), (TWO, [1, 1], 0), (TWO, [0, 1, 2], 0), (TWO, [0], 0), (TWO, [], 0),
    (TWO, [0, True], 0), (TWO, None, 0), (TWO, {}, 0), (TWO, "10", 0), (tuple(TWO), [1, 0], 0), ([[0, 1]], [0], 0),
    ([[0]], [0], 0), ([[0, 1]], [1, 0], 0), ([], [], 0), (None, [1, 0], 0), ([[0, 1], (1, 0)], [1, 0], 0),
    ([[0, 1], [1, 1]], [1, 0], 0), ([[0, 1], [1, 2]], [1, 0], 0), ([[0, 1], [True, 0]], [1, 0], 0),
    ([[0, 1], [0, 1, 2]], [1, 0], 0), ([[0, 1], [1, 0], [0, 1]], [1, 0], 0), ([[0, 1], None], [1, 0], 0),
    (STILL, [1, 0], 0), (TWO, 0, [1, 0]), ([1, 0], TWO, 0), (0, [1, 0], TWO), (TWO, [1, 0], 0, None),
    ((TWO, [1, 0], 0),),
    ([list(range(13)) for _ in range(13)], list(range(13)), 0), (None, None, None), ((), (), ()), "wide", {"0": TWO},
]


def step(wide, row, block):
    """The row behind an access by [8], and the block that goes, or None."""
    moves, miss, out = wide
    behind = [None] * len(row)
    if block in row:
        i = row.index(block)
        for j, item in enumerate(row):
            behind[moves[i][j]] = item
        return behind, None
    for j, item in enumerate(row):
        if j != out:
            behind[miss[j]] = item
    behind[miss[out]] = block
    return behind, row[out]


def ages(wide):
    """For each place how many misses there are ahead of the one at which its block goes; None if it never goes."""
    k = len(wide[1])
    row = list(range(k))
    found = [None] * k
    # By then the rows have come round, and who has not gone does not go.
    for new in range(k * k + k):
        row, old = step(wide, row, k + new)
        if old < k:
            found[old] = new
    return found


def draw_wide(rng, k):
    return draw_rule(rng, k), draw_permutation(rng, k), rng.randrange(k)


def draw_whole(rng, k):
    wide = draw_wide(rng, k)
    while None in ages(wide):
        wide = draw_wide(rng, k)
    return wide


def outcomes_by_steps(wide, row, stream):
    told = []
    for block in stream:
        told.append(block in row)
        row, _ = step(wide, row, block)
    return told


def draw_accesses(rng, row, length):
    return [rng.choice(row + list(range(20, 20 + len(row)))) for _ in range(length)]


class ExamplesTest(CallTest):
    def test_examples(self):
        self.assertEqual([numbers(QUEUE), normal(QUEUE) == first_in(3), stuck_places((STILL, [1, 0, 2], 0)),
                          wide_of(first_in(3), [2, 1, 0]) == QUEUE], [[2, 1, 0], True, [2], True])

    def test_by_name(self):
        self.assertEqual(
            [is_wide(value=QUEUE), stuck_places(wide=QUEUE), numbers(wide=QUEUE), normal(wide=QUEUE),
             wide_of(numbers=[2, 1, 0], rule=first_in(3)), wide_outcomes(stream=[1, 4, 3], row=[1, 2, 3], wide=QUEUE),
             wide_alike(other=QUEUE, one=QUEUE)],
            [True, [], [2, 1, 0], first_in(3), QUEUE, [True, False, False], True])


class IsWideTest(CallTest):
    def test_wide_rules(self):
        rng = drawn(60)
        for k in range(2, 13):
            for out in range(k):
                self.assertIs(self.steady(is_wide, (draw_rule(rng, k), draw_permutation(rng, k), out)), True)

    def test_other_values(self):
        for value in NO_WIDE:
            with self.subTest(value=value):
                self.assertIs(self.steady(is_wide, value), False)

    def test_near_a_wide_rule(self):
        rng = drawn(61)
        for k in range(2, 13):
            moves, miss, out = draw_wide(rng, k)
            near = [[moves, miss, out], (moves, miss), (moves, miss, out, out), (moves, miss, k), (moves, miss, -1),
                    (moves, miss, bool(out)), (moves, miss, None), (moves, miss, str(out)), (moves, tuple(miss), out),
                    (moves, miss[:-1], out), (moves, miss + [k], out), (tuple(moves), miss, out),
                    (moves[:-1], miss, out),
                    (moves + [miss], miss, out), (miss, moves, out), (moves, out, miss), (moves, None, out)]
            for place in range(k):
                for wrong in (-1, k, None, True, miss[place - 1], [0]):
                    changed = list(miss)
                    changed[place] = wrong
                    near.append((moves, changed, out))
                    changed = copy.deepcopy(moves)
                    changed[place] = wrong
                    near.append((changed, miss, out))
                    changed = copy.deepcopy(moves)
                    changed[place][rng.randrange(k)] = k if wrong == miss[place - 1] else wrong
                    near.append((changed, miss, out))
            for value in near:
                with self.subTest(value=value):
                    self.assertIs(is_wide(value), False)
                    self.fails(InvalidWide, {}, numbers, value)


class NumbersTest(CallTest):
    def check(self, wide):
        told = ages(wide)
        stuck = [place for place, age in enumerate(told) if age is None]
        self.assertEqual(self.steady(stuck_places, wide), stuck)
        if stuck:
            for call in (numbers, normal):
                self.fails(NotWhole, {"places": stuck}, call, wide)
            return
        self.assertEqual(self.steady(numbers, wide), told)
        rule = self.steady(normal, wide)
        for i, j in itertools.product(range(len(told)), repeat=2):
            self.assertEqual(rule[told[i]][told[j]], told[wide[0][i][j]])
        self.assertEqual(self.steady(wide_of, rule, told), wide)

    def test_drawn_ones(self):
        rng = drawn(62)
        for k in [2, 3, 4, 5, 6, 7, 12]:
            for _ in range(25):
                self.check(draw_wide(rng, k))
            for _ in range(5):
                self.check(draw_whole(rng, k))

    def test_all_misses_of_small_ones(self):
        rng = drawn(63)
        for k in range(2, 5):
            moves = draw_rule(rng, k)
            for miss in itertools.permutations(range(k)):
                for out in range(k):
                    self.check((moves, list(miss), out))

    def test_a_miss_that_stays(self):
        self.check((TWO, [0, 1], 0))
        self.check((TWO, [0, 1], 1))
        self.assertEqual(stuck_places((TWO, [0, 1], 1)), [0])
        self.assertEqual(stuck_places((STILL, [0, 1, 2], 1)), [0, 2])

    def test_the_places_of_an_error_are_new(self):
        for _ in range(2):
            with self.assertRaises(NotWhole) as caught:
                numbers((STILL, [1, 0, 2], 0))
            self.assertEqual(caught.exception.places, [2])
            caught.exception.places.append(5)

    def test_all_numberings(self):
        rng = drawn(64)
        for k in range(2, 6):
            rule = draw_rule(rng, k)
            made = []
            for given in itertools.permutations(range(k)):
                wide = self.steady(wide_of, rule, list(given))
                self.assertIs(is_wide(wide), True)
                self.assertEqual([stuck_places(wide), numbers(wide), normal(wide)], [[], list(given), rule])
                self.assertEqual(ages(wide), list(given))
                self.assertNotIn(wide, made)
                made.append(wide)

    def test_numberings_of_greater_ones(self):
        rng = drawn(65)
        for k in range(6, 13):
            for _ in range(8):
                rule, given = draw_rule(rng, k), draw_permutation(rng, k)
                wide = wide_of(rule, given)
                self.assertEqual([is_wide(wide), numbers(wide), normal(wide)], [True, given, rule])
                row = draw_row(rng, k)
                inner = [row[given.index(place)] for place in range(k)]
                stream = draw_accesses(rng, row, 60)
                self.assertEqual(wide_outcomes(wide, row, stream), model_outcomes(rule, inner, stream))


class WideOutcomesTest(CallTest):
    def test_step_by_step(self):
        rng = drawn(66)
        for k in [2, 3, 4, 5, 6, 7, 12]:
            for length in [0, 1, 5, 30, 400]:
                for wide in (draw_wide(rng, k), draw_whole(rng, k)):
                    row = draw_row(rng, k)
                    stream = draw_accesses(rng, row, length)
                    told = self.steady(wide_outcomes, wide, row, stream)
                    self.assertEqual(told, outcomes_by_steps(wide, row, stream))
                    self.assertTrue(all(type(one) is bool for one in told))

    def test_whole_ones_are_their_rule(self):
        rng = drawn(67)
        for k in range(2, 8):
            for _ in range(10):
                wide, row = draw_whole(rng, k), draw_row(rng, k)
                stream = draw_accesses(rng, row, 60)
                inner = [row[numbers(wide).index(place)] for place in range(k)]
                self.assertEqual(wide_outcomes(wide, row, stream), model_outcomes(normal(wide), inner, stream))

    def test_a_block_at_a_stuck_place_never_goes(self):
        rng = drawn(68)
        for k in range(3, 9):
            for _ in range(10):
                miss, out = draw_permutation(rng, k), rng.randrange(k)
                wide = (first_in(k), miss, out)
                row = list(range(k))
                stream = list(range(100, 100 + 2 * k)) + row
                stuck = stuck_places(wide)
                told = wide_outcomes(wide, row, stream)
                first = told[2 * k]
                self.assertEqual(first, 0 in stuck)
                for place in stuck:
                    self.assertIs(wide_outcomes(wide, row, stream[:2 * k] + [place])[-1], True)

    def test_blocks_of_the_places(self):
        wide = ([[1, 0, 2], [0, 1, 2], [0, 1, 2]], [0, 2, 1], 1)
        self.assertEqual(stuck_places(wide), [0])
        self.assertEqual(wide_outcomes(wide, [4, 5, 6], [7, 8, 4, 9, 4, 6]), [False, False, True, False, False, False])


class WideAlikeTest(CallTest):
    def test_numberings_of_one_rule(self):
        rng = drawn(69)
        for k in range(2, 13):
            rule = draw_rule(rng, k)
            one, other = [wide_of(rule, draw_permutation(rng, k)) for _ in range(2)]
            self.assertIs(self.steady(wide_alike, one, other), True)
            changed = copy.deepcopy(rule)
            i, j = rng.sample(range(k), 2)
            moves = changed[rng.randrange(k)]
            moves[i], moves[j] = moves[j], moves[i]
            self.assertIs(self.steady(wide_alike, one, wide_of(changed, draw_permutation(rng, k))), False)
            self.assertIs(wide_alike(wide_of(changed, numbers(one)), one), False)

    def test_drawn_ones(self):
        rng = drawn(70)
        for k in (2, 3):
            some = [draw_whole(rng, k) for _ in range(40)]
            for one, other in itertools.product(some, repeat=2):
                self.assertIs(wide_alike(one, other), normal(one) == normal(other))

    def test_named_rules(self):
        self.assertIs(wide_alike(wide_of(tree(2), [1, 0]), wide_of(last_used(2), [0, 1])), True)
        self.assertIs(wide_alike(wide_of(climbing(4), [1, 0, 2, 3]), wide_of(last_used(4), [1, 0, 2, 3])), False)


class ErrorsTest(CallTest):
    def test_no_wide_rule(self):
        for value in NO_WIDE:
            with self.subTest(value=value):
                for call in (stuck_places, numbers, normal):
                    self.fails(InvalidWide, {}, call, value)
                self.fails(InvalidWide, {}, wide_outcomes, value, None, None)
                self.fails(InvalidWide, {}, wide_outcomes, value, [1, 2], [1])
                self.fails(InvalidWide, {}, wide_alike, value, QUEUE)
                self.fails(InvalidWide, {}, wide_alike, QUEUE, value)
                self.fails(InvalidWide, {}, wide_alike, (TWO, [0, 1], 0), value)
                self.fails(InvalidWide, {}, wide_alike, value, None)

    def test_no_rule_or_numbers(self):
        for value, index in NO_RULE:
            with self.subTest(value=value):
                for given in ([0, 1], None, [0]):
                    self.fails(InvalidRule, {"index": index}, wide_of, value, given)
        for value in WRONG_KINDS + [[], [1], [0, 0], [0, 2], [True, 0], (0, 1), ["0", "1"], list(range(13)), [[0, 1]]]:
            with self.subTest(value=value):
                for k in (2, 3):
                    self.fails(InvalidPermutation, {}, wide_of, first_in(k), value)

    def test_numbers_of_other_sizes(self):
        for k in range(2, 13):
            for many in range(1, 13):
                if many != k:
                    self.fails(OtherSize, {}, wide_of, first_in(k), list(range(many)))

    def test_no_row_and_no_stream(self):
        for wide in [(TWO, [1, 0], 0), (TWO, [0, 1], 1)]:
            for value, index in NO_ROW:
                for stream in ([], None, [-1]):
                    self.fails(InvalidRow, {"index": index}, wide_outcomes, wide, value, stream)
            for value, index in NO_STREAM:
                self.fails(InvalidStream, {"index": index}, wide_outcomes, wide, [5, 6], value)
        for many in (0, 2, 4, 12):
            self.fails(InvalidRow, {"index": None}, wide_outcomes, QUEUE, list(range(many)), [])

    def test_alike(self):
        for one, other in itertools.permutations(range(2, 13), 2):
            for first in (list(range(one)), list(range(1, one)) + [0]):
                for second in (list(range(other)), list(range(1, other)) + [0]):
                    self.fails(OtherSize, {}, wide_alike, (first_in(one), first, 0), (first_in(other), second, 0))
        self.fails(NotWhole, {"places": [2]}, wide_alike, (STILL, [1, 0, 2], 0), (STILL, [0, 1, 2], 0))
        self.fails(NotWhole, {"places": [1, 2]}, wide_alike, (STILL, [0, 1, 2], 0), (STILL, [1, 0, 2], 0))
        self.fails(NotWhole, {"places": [1, 2]}, wide_alike, (STILL, [0, 1, 2], 0), QUEUE)
        self.fails(NotWhole, {"places": [0, 1]}, wide_alike, QUEUE, (STILL, [0, 1, 2], 2))
        self.fails(NotWhole, {"places": [2]}, wide_alike, (STILL, [1, 0, 2], 0), (STILL, [1, 0, 2], 0))


if __name__ == "__main__":
    unittest.main()
