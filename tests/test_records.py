"""Records of outcomes: [2] to [5], [12] and the interface of goesnext.records."""

import itertools
import unittest

from goesnext.errors import InvalidBlock, InvalidOutcomes, InvalidRule, InvalidStream, TooMany
from goesnext.records import first_rows, is_possible, next_one, rows_left
from goesnext.rules import climbing, first_in, last_used, raised, tree
from model import NO_RULE, NO_STREAM, WRONG_KINDS, CallTest, draw_rule, drawn, ran
from partly_model import HIGH_RECORDS, LOW_RECORDS, fits_of_records, fits_of_runs, in_sequence, pools

CALLS = (first_rows, is_possible, rows_left)
NO_BLOCK = [None, True, False, -1, 10 ** 9 + 1, "", "5", [], [5], (), (5,), {}, 10 ** 30, -10 ** 30]
NO_OUTCOMES = WRONG_KINDS + [
    [], [True], [True, False, True], (True, False), [True, None], [1, 0], [True, 0], [1, False], ["True", True],
    [True, [True]], "+-", {"0": True}, [[True, False]], [None, None], [True, "False"],
]


def some_rules(rng, k):
    named = [first_in(k), last_used(k), climbing(k)] + ([tree(k)] if k in (2, 4, 8) else [])
    return named + [raised([rng.randint(i, k - 1) for i in range(k)]), draw_rule(rng, k), draw_rule(rng, k)]


def draw_outcomes(rng, rule, stream):
    """Those of a real run, some of them turned about in one case of three."""
    row = rng.sample(pools(stream, len(rule)), len(rule))
    outcomes = ran(rule, row, stream).outcomes
    if rng.randrange(3) == 0:
        outcomes = [one != (rng.randrange(len(stream)) == 0) for one in outcomes]
    return outcomes


class ExamplesTest(unittest.TestCase):
    def test_examples(self):
        three, told = [1, 2, 1], [True, False, False]
        self.assertEqual([first_rows(first_in(2), three, told), rows_left(first_in(2), three, told),
                          next_one(first_in(2), three, told, 2), is_possible(last_used(2), three, told)],
                         [[[1, None]], [[2, 1]], "hit", False])

    def test_by_name(self):
        named = {"outcomes": [True, False, False], "stream": [1, 2, 1], "rule": first_in(2)}
        self.assertEqual([call(**named) for call in CALLS], [[[1, None]], True, [[2, 1]]])
        self.assertEqual(next_one(block=2, **named), "hit")

    def test_by_hand(self):
        self.assertEqual(first_rows(first_in(2), [1], [True]), [[None, 1], [1, None]])
        self.assertEqual(rows_left(first_in(2), [1], [True]), [[None, 1], [1, None]])
        self.assertEqual(rows_left(last_used(2), [1], [True]), [[None, 1]])
        self.assertEqual(first_rows(last_used(2), [1], [True]), [[None, 1], [1, None]])
        self.assertEqual(first_rows(first_in(2), [0, 10 ** 9], [True, True]), [[0, 10 ** 9], [10 ** 9, 0]])
        self.assertEqual(first_rows(first_in(3), [5, 0], [False, True]), [[None, None, 0], [None, 0, None]])


class AllFirstRowsTest(CallTest):
    def check(self, rule, stream, outcomes, more):
        first, left, later = fits_of_runs(rule, stream, outcomes, more)
        self.assertEqual(self.steady(first_rows, rule, stream, outcomes), first)
        self.assertEqual(self.steady(rows_left, rule, stream, outcomes), left)
        self.assertIs(self.steady(is_possible, rule, stream, outcomes), len(first) > 0)
        for block, kinds in later.items():
            word = self.steady(next_one, rule, stream, outcomes, block)
            if not kinds:
                self.assertIsNone(word)
            else:
                self.assertEqual(word, "open" if len(kinds) == 2 else "hit" if True in kinds else "miss")
        return len(first)

    def test_all_records_of_two_places(self):
        for rule in itertools.product([[0, 1], [1, 0]], repeat=2):
            for length in range(4):
                for stream in itertools.product([7, 0, 10 ** 9], repeat=length):
                    for outcomes in itertools.product([True, False], repeat=length):
                        self.check(list(rule), list(stream), list(outcomes), [7, 8])

    def test_drawn_records(self):
        rng = drawn(110)
        for k, many in [(2, 60), (3, 18)]:
            for rule in some_rules(rng, k):
                for at in range(many):
                    blocks = rng.sample([0, 1, 2, 3, 4, 5, 6, 10 ** 9], rng.randint(1, 6))
                    stream = [rng.choice(blocks) for _ in range(at % 9)]
                    self.check(rule, stream, draw_outcomes(rng, rule, stream), [rng.choice(blocks), 9])

    def test_four_places(self):
        rng = drawn(111)
        for rule in some_rules(rng, 4):
            stream = [rng.randrange(3) for _ in range(rng.randint(3, 6))]
            self.check(rule, stream, draw_outcomes(rng, rule, stream), [3])

    def test_nothing_fits(self):
        self.assertEqual(self.check(first_in(2), [1, 1], [True, False], [1, 2]), 0)
        self.assertEqual(self.check(last_used(3), [1, 2, 3, 4], [True, True, True, True], [1, 5]), 0)
        self.assertIsNone(next_one(first_in(2), [1, 1], [False, False], 5))
        self.assertEqual(first_rows(first_in(2), [1, 1, 2], [False, False, True]), [])
        self.assertEqual(rows_left(first_in(2), [1, 1], [True, False]), [])

    def test_no_access(self):
        for k in range(2, 13):
            rule = last_used(k)
            self.assertEqual(self.steady(first_rows, rule, [], []), [[None] * k])
            self.assertEqual(self.steady(rows_left, rule, [], []), [[None] * k])
            self.assertIs(is_possible(rule, [], []), True)
            self.assertEqual(next_one(rule, [], [], 0), "open")


class MorePlacesTest(CallTest):
    def check(self, rule, stream, outcomes):
        told = fits_of_records(rule, stream, outcomes)
        if max([len(fits) for fits in told], default=0) > 5000:
            for call in CALLS:
                self.fails(TooMany, {"limit": 5000}, call, rule, stream, outcomes)
            self.fails(TooMany, {"limit": 5000}, next_one, rule, stream, outcomes, 0)
            return
        fits = told[-1] if told else [(None,) * len(rule)]
        self.assertEqual(len(set(fits)), len(fits))
        self.assertEqual(first_rows(rule, stream, outcomes), in_sequence(fits))
        self.assertIs(is_possible(rule, stream, outcomes), len(fits) > 0)

    def test_drawn_records(self):
        rng = drawn(112)
        for k in range(4, 13):
            for rule in some_rules(rng, k):
                stream = [rng.randrange(9) for _ in range(rng.randint(0, 12))]
                self.check(rule, stream, draw_outcomes(rng, rule, stream))

    def test_rows_left_are_those_of_the_first_rows(self):
        rng = drawn(113)
        for k in range(4, 9):
            for rule in some_rules(rng, k):
                stream = [rng.randrange(4) for _ in range(8)]
                outcomes = draw_outcomes(rng, rule, stream)
                behind = set()
                for first in first_rows(rule, stream, outcomes):
                    row = [f"old {place}" if item is None else item for place, item in enumerate(first)]
                    cache = ran(rule, row, stream)
                    self.assertEqual(cache.outcomes, outcomes)
                    behind.add(tuple(None if isinstance(item, str) else item for item in cache.row()))
                self.assertEqual(self.steady(rows_left, rule, stream, outcomes), in_sequence(behind))

    def test_long_records(self):
        rng = drawn(114)
        for k in range(2, 13):
            for rule in some_rules(rng, k):
                begun = list(range(20, 20 + k))
                stream = begun + [rng.randrange(16, 24 + k) for _ in range(400 - k)]
                cache = ran(rule, [f"old {place}" for place in range(k)], stream)
                outcomes, row = cache.outcomes, cache.row()
                self.assertEqual(first_rows(rule, stream, outcomes), [[None] * k])
                self.assertEqual(rows_left(rule, stream, outcomes), [row])
                for block in row + [15, rng.randrange(16, 24 + k)]:
                    self.assertEqual(next_one(rule, stream, outcomes, block), "hit" if block in row else "miss")
                outcomes[-1] = not outcomes[-1]
                self.assertIs(is_possible(rule, stream, outcomes), False)
                self.assertIsNone(next_one(rule, stream, outcomes, 15))

    def test_more_than_four_hundred(self):
        self.assertEqual(rows_left(first_in(2), [5] * 450, [True] * 450), [[None, 5], [5, None]])
        self.assertEqual(next_one(first_in(2), [5] * 450, [False] + [True] * 449, 6), "open")


class TooManyTest(CallTest):
    def test_just_within_and_just_beyond(self):
        for rule, stream, outcomes, most in LOW_RECORDS + HIGH_RECORDS:
            told = fits_of_records(rule, stream, outcomes)
            self.assertEqual(max(len(fits) for fits in told), most)
            if most <= 5000:
                self.assertEqual(self.steady(first_rows, rule, stream, outcomes), in_sequence(told[-1]))
                self.assertIs(is_possible(rule, stream, outcomes), True)
                self.assertGreater(len(rows_left(rule, stream, outcomes)), 0)
                self.assertIn(next_one(rule, stream, outcomes, 99), ("open", "miss"))
            else:
                for call in CALLS:
                    self.fails(TooMany, {"limit": 5000}, call, rule, stream, outcomes)
                self.fails(TooMany, {"limit": 5000}, next_one, rule, stream, outcomes, 99)

    def test_products(self):
        # By last_used each miss takes a block that was not accessed, as long as there is one.
        begun = [False, True, True, True, False, False, False]
        self.assertEqual(len(first_rows(last_used(12), list(range(8)), begun + [True])), 11 * 10 * 9 * 5)
        self.assertEqual(len(first_rows(last_used(12), list(range(7)), begun)), 11 * 10 * 9)
        hits = [False, False, True, True, True, True]
        self.fails(TooMany, {"limit": 5000}, first_rows, last_used(12), list(range(6)), hits)
        self.assertEqual(len(first_rows(last_used(12), list(range(5)), hits[:-1])), 10 * 9 * 8)

    def test_later_accesses_do_not_help(self):
        stream, outcomes = [0, 1, 2, 3], [True] * 4
        self.assertEqual(len(first_rows(first_in(9), stream, outcomes)), 9 * 8 * 7 * 6)
        for more in ([], [0, 1], list(range(20, 60))):
            told = outcomes + [True, True] * (more == [0, 1]) + [False] * (len(more) * (more != [0, 1]))
            for call in CALLS:
                self.fails(TooMany, {"limit": 5000}, call, first_in(10), stream + more, told)
        # Here nothing fits in the end, but more than the limit did before.
        self.fails(TooMany, {"limit": 5000}, is_possible, first_in(10), stream + [0], outcomes + [False])
        self.assertIs(is_possible(first_in(9), stream + [0], outcomes + [False]), False)

    def test_few_rows_left_of_many_first_rows(self):
        stream, outcomes = [0, 1, 2, 3], [True] * 4
        self.assertEqual(rows_left(last_used(9), stream, outcomes), [[None] * 5 + stream])
        self.fails(TooMany, {"limit": 5000}, rows_left, last_used(10), stream, outcomes)

    def test_the_next_access_is_not_counted(self):
        self.assertEqual(next_one(first_in(10), [0, 1, 2], [True] * 3, 3), "open")
        self.assertEqual(next_one(first_in(9), [0, 1, 2, 3], [True] * 4, 4), "open")
        self.fails(TooMany, {"limit": 5000}, next_one, first_in(10), [0, 1, 2, 3], [True] * 4, 0)


class ErrorsTest(CallTest):
    def test_no_rule(self):
        for value, index in NO_RULE:
            with self.subTest(value=value):
                for stream, outcomes in [([5], [True]), (None, None), ([-1], [1])]:
                    for call in CALLS:
                        self.fails(InvalidRule, {"index": index}, call, value, stream, outcomes)
                    self.fails(InvalidRule, {"index": index}, next_one, value, stream, outcomes, None)

    def test_no_stream(self):
        for value, index in NO_STREAM:
            with self.subTest(value=value):
                for outcomes in ([True], None, [1]):
                    for call in CALLS:
                        self.fails(InvalidStream, {"index": index}, call, first_in(2), value, outcomes)
                    self.fails(InvalidStream, {"index": index}, next_one, first_in(2), value, outcomes, -1)

    def test_no_outcomes(self):
        for outcomes in NO_OUTCOMES:
            with self.subTest(outcomes=outcomes):
                for call in CALLS:
                    self.fails(InvalidOutcomes, {}, call, first_in(2), [5, 7], outcomes)
                for block in (5, None, -1):
                    self.fails(InvalidOutcomes, {}, next_one, first_in(2), [5, 7], outcomes, block)
        self.fails(InvalidOutcomes, {}, first_rows, first_in(2), [], [True])
        self.fails(InvalidOutcomes, {}, is_possible, first_in(2), [5] * 401, [True] * 400)

    def test_no_block(self):
        for block in NO_BLOCK:
            with self.subTest(block=block):
                self.fails(InvalidBlock, {}, next_one, first_in(2), [5, 7], [True, False], block)
                self.fails(InvalidBlock, {}, next_one, first_in(2), [5, 5], [True, False], block)
                self.fails(InvalidBlock, {}, next_one, first_in(12), list(range(8)), [True] * 8, block)

    def test_before_too_many(self):
        stream, outcomes = list(range(8)), [True] * 8
        for call in CALLS:
            self.fails(TooMany, {"limit": 5000}, call, first_in(12), stream, outcomes)
            self.fails(InvalidOutcomes, {}, call, first_in(12), stream, outcomes[:-1] + [1])
            self.fails(InvalidStream, {"index": 8}, call, first_in(12), stream + [True], outcomes + [1])
            self.fails(InvalidRule, {"index": 11}, call, first_in(12)[:11] + [[]], stream, outcomes)


if __name__ == "__main__":
    unittest.main()
