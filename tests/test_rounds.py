"""Streams gone round: [2] to [5], [14] and the interface of goesnext.rounds."""

import unittest

from goesnext.errors import InvalidNumber, InvalidRow, InvalidRule, InvalidStream, TooMany
from goesnext.rounds import hits_in, period_of, row_after
from goesnext.rules import climbing, first_in, last_used, tree
from goesnext.runs import outcomes_of, row_behind
from model import NO_ROW, NO_RULE, NO_STREAM, WRONG_KINDS, CallTest, ModelCache, draw_row, draw_rule, drawn

ODD = [[0, 2, 1], [0, 1, 2], [0, 1, 2]]
NO_TIMES = [value for value in WRONG_KINDS if type(value) is not int] + [
    -1, -10 ** 18, 10 ** 18 + 1, 10 ** 30, [1], "1", (1,)]
CALLS = (hits_in, row_after)
# Rules, rows and streams, with the least first and length.
SLOW = [[4, 7, 3, 6, 0, 1, 2, 5], [1, 0, 6, 7, 3, 4, 2, 5], [3, 0, 2, 4, 1, 5, 7, 6], [6, 7, 2, 3, 5, 0, 1, 4],
        [1, 0, 2, 6, 7, 5, 4, 3], [2, 3, 6, 0, 7, 5, 1, 4], [1, 3, 5, 2, 4, 0, 6, 7], [4, 7, 3, 5, 0, 2, 6, 1]]
OTHER_SLOW = [[6, 5, 4, 3, 1, 7, 0, 2], [2, 5, 4, 7, 3, 6, 0, 1], [5, 6, 4, 7, 2, 1, 0, 3], [5, 1, 6, 0, 4, 3, 2, 7],
              [2, 4, 0, 5, 3, 7, 6, 1], [2, 6, 5, 4, 1, 7, 3, 0], [6, 4, 7, 0, 5, 1, 2, 3], [3, 2, 7, 4, 5, 0, 6, 1]]
LOW_ROUNDS = [(SLOW, row_behind(SLOW, [0, 1, 2, 3, 4, 5, 6, 7], [1, 7, 8]), [1, 7, 8], 0, 1000),
              (OTHER_SLOW, [0, 1, 2, 3, 4, 5, 6, 7], [2, 1, 7], 0, 1000)]
HIGH_ROUNDS = [(SLOW, [0, 1, 2, 3, 4, 5, 6, 7], [1, 7, 8], 1, 1000)]


def rounds(rule, row, stream, many):
    """The rows behind 0, 1 .. rounds and the number of hits until then, access by access."""
    cache = ModelCache(rule, row)
    rows, hits = [list(row)], [0]
    for _ in range(many):
        for block in stream:
            cache.access(block)
        rows.append(cache.row())
        hits.append(sum(cache.outcomes))
    return rows, hits


def own_period(rows):
    """The least first and length among these rows, or None if none comes round."""
    met = {}
    for at, row in enumerate(rows):
        if tuple(row) in met:
            return met[tuple(row)], at - met[tuple(row)]
        met[tuple(row)] = at
    return None


def some_cases(rng, k):
    row = draw_row(rng, k)
    rules = [first_in(k), last_used(k), climbing(k), draw_rule(rng, k), draw_rule(rng, k)]
    rules += [tree(k)] if k in (2, 4, 8) else []
    others = rng.sample(range(100, 200), 4)
    streams = [[], row, row[::-1], [rng.choice(row) for _ in range(rng.randint(1, 4))],
               [rng.choice(row + others) for _ in range(rng.randint(1, 12))], others[:min(4, k)],
               [rng.choice(row[:2] + others) for _ in range(40)], list(range(300, 301 + k))]
    return [(rule, row, stream) for rule in rules for stream in streams]


class ExamplesTest(unittest.TestCase):
    def test_examples(self):
        self.assertEqual([hits_in(last_used(2), [8, 9], [1, 2], 10), period_of(last_used(2), [8, 9], [1, 2]),
                          row_after(last_used(2), [8, 9], [1, 2], 10 ** 18)], [18, (1, 1), [1, 2]])
        self.assertEqual([hits_in(ODD, [2, 1, 9], [3, 1, 2], 10 ** 18) == 15 * 10 ** 17,
                          period_of(ODD, [2, 1, 9], [3, 1, 2])], [True, (0, 2)])

    def test_by_name(self):
        named = {"stream": [1, 2], "row": [8, 9], "rule": last_used(2)}
        self.assertEqual([hits_in(times=10, **named), row_after(times=3, **named), period_of(**named)],
                         [18, [1, 2], (1, 1)])


class RunsTest(CallTest):
    def check(self, rule, row, stream):
        rows, hits = rounds(rule, row, stream, 130)
        told = own_period(rows[:-1])
        if told is None:
            return False
        first, length = told
        period = self.steady(period_of, rule, row, stream)
        self.assertEqual(period, (first, length))
        self.assertEqual([type(period)] + [type(one) for one in period], [tuple, int, int])
        for times in [*range(41), first + length, first + length + 1, 130]:
            self.assertEqual(hits_in(rule, row, stream, times), hits[times])
            self.assertEqual(row_after(rule, row, stream, times), rows[times])
        for times in [first + length * 10 ** 12, first + length * 10 ** 12 + 7, 10 ** 18 - 1, 10 ** 18]:
            turns, rest = divmod(times - first, length)
            told = hits[first + rest] + turns * (hits[first + length] - hits[first])
            self.assertEqual(self.steady(hits_in, rule, row, stream, times), told)
            self.assertEqual(self.steady(row_after, rule, row, stream, times), rows[first + rest])
        return True

    def test_drawn_cases(self):
        rng = drawn(140)
        found = []
        for k in range(2, 13):
            for rule, row, stream in some_cases(rng, k):
                found.append(self.check(rule, row, stream))
        self.assertGreater(found.count(True), 300)

    def test_rows_that_do_not_come_round_at_once(self):
        rng = drawn(141)
        firsts, lengths = set(), set()
        for k in (3, 4, 5):
            for _ in range(60):
                rule, row = draw_rule(rng, k), draw_row(rng, k)
                stream = [rng.choice(row + [7, 8]) for _ in range(rng.randint(1, 5))]
                if self.check(rule, row, stream):
                    first, length = period_of(rule, row, stream)
                    firsts.add(first)
                    lengths.add(length)
        self.assertGreater(len(firsts), 5)
        self.assertGreater(len(lengths), 5)

    def test_empty_stream(self):
        for k in range(2, 13):
            row = list(range(k))
            self.assertEqual(self.steady(period_of, tree(2) if k == 2 else climbing(k), row, []), (0, 1))
            for times in (0, 1, 40, 10 ** 18):
                self.assertEqual(hits_in(climbing(k), row, [], times), 0)
                self.assertEqual(row_after(climbing(k), row, [], times), row)

    def test_no_round(self):
        row = [4, 5, 6]
        self.assertEqual(hits_in(last_used(3), row, [4, 9], 0), 0)
        self.assertEqual(row_after(last_used(3), row, [4, 9], 0), row)
        self.assertIsNot(row_after(last_used(3), row, [4, 9], 0), row)

    def test_more_than_forty_accesses(self):
        stream = [block % 7 for block in range(300)]
        self.check(first_in(3), [1, 2, 3], stream)


class NewBlocksTest(CallTest):
    def test_all_hits_from_the_second_round_on(self):
        rng = drawn(142)
        for k in range(2, 13):
            for rule in [first_in(k), last_used(k), climbing(k), draw_rule(rng, k), draw_rule(rng, k)]:
                for many in range(1, k + 1):
                    stream = rng.sample(range(50, 80), many)
                    try:
                        told = hits_in(rule, list(range(k)), stream, 10 ** 9)
                    except TooMany:
                        # The blocks stay, but their row takes long to come round.
                        told = (10 ** 9 - 1) * many
                    self.assertEqual(told, (10 ** 9 - 1) * many)
                    self.assertEqual(outcomes_of(rule, list(range(k)), stream * 3), [False] * many + [True] * 2 * many)

    def test_misses_for_ever(self):
        for times in (2, 40, 10 ** 18):
            self.assertEqual(hits_in(ODD, [2, 1, 9], [3, 1, 2], times), times * 3 // 2)
        self.assertEqual(hits_in(ODD, [7, 8, 9], [3, 1, 2], 10 ** 18), 3 * (10 ** 18 - 1))


class TooManyTest(CallTest):
    def test_just_within_and_just_beyond(self):
        for rule, row, stream, first, length in LOW_ROUNDS + HIGH_ROUNDS:
            rows, hits = rounds(rule, row, stream, 1100)
            self.assertEqual(own_period(rows), (first, length))
            if first + length <= 1000:
                self.assertEqual(self.steady(period_of, rule, row, stream), (first, length))
                for times in (0, 1, first, first + 1, 999, 1000, 1001, 1099):
                    self.assertEqual(hits_in(rule, row, stream, times), hits[times])
                    self.assertEqual(row_after(rule, row, stream, times), rows[times])
                continue
            self.fails(TooMany, {"limit": 1000}, period_of, rule, row, stream)
            for times in (0, 1, 999, 1000, 10 ** 18):
                for call in CALLS:
                    self.fails(TooMany, {"limit": 1000}, call, rule, row, stream, times)

    def test_far_beyond(self):
        rule, row, stream = HIGH_ROUNDS[0][:3]
        for times in NO_TIMES:
            for call in CALLS:
                self.fails(InvalidNumber, {}, call, rule, row, stream, times)


class ErrorsTest(CallTest):
    def test_no_rule(self):
        for value, index in NO_RULE:
            with self.subTest(value=value):
                for rest in [([5, 6], [5], 1), (None, None, None), ([5, 5], [-1], -1)]:
                    for call in CALLS:
                        self.fails(InvalidRule, {"index": index}, call, value, *rest)
                    self.fails(InvalidRule, {"index": index}, period_of, value, *rest[:2])

    def test_no_row(self):
        for value, index in NO_ROW:
            with self.subTest(value=value):
                for rest in [([5], 1), (None, None), ([True], -1)]:
                    for call in CALLS:
                        self.fails(InvalidRow, {"index": index}, call, first_in(2), value, *rest)
                    self.fails(InvalidRow, {"index": index}, period_of, first_in(2), value, rest[0])

    def test_no_stream(self):
        for value, index in NO_STREAM:
            with self.subTest(value=value):
                for times in (1, None, -1):
                    for call in CALLS:
                        self.fails(InvalidStream, {"index": index}, call, first_in(2), [5, 6], value, times)
                self.fails(InvalidStream, {"index": index}, period_of, first_in(2), [5, 6], value)

    def test_no_times(self):
        for times in NO_TIMES:
            with self.subTest(times=times):
                for stream in ([], [5], [7, 8, 9]):
                    for call in CALLS:
                        self.fails(InvalidNumber, {}, call, first_in(2), [5, 6], stream, times)


if __name__ == "__main__":
    unittest.main()
