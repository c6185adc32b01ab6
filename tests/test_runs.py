"""Runs of streams: [2] to [5] and the interface of goesnext.runs."""

import unittest

from goesnext.errors import InvalidRow, InvalidRule, InvalidStream
from goesnext.rules import climbing, first_in, last_used, tree
from goesnext.runs import gone, lines_behind, outcomes_of, row_behind
from model import NO_ROW, NO_RULE, NO_STREAM, CallTest, draw_row, draw_rule, drawn, ran

CALLS = (outcomes_of, row_behind, gone, lines_behind)


def draw_stream(rng, row, length):
    """Accesses to blocks of the row, to blocks that were there before, and to new ones."""
    met = list(row)
    stream = []
    for _ in range(length):
        kind = rng.randrange(3)
        if kind == 0:
            block = rng.choice(row)
        elif kind == 1:
            block = rng.choice(met[-len(row) - 2:])
        else:
            block = rng.choice([0, 10 ** 9, rng.randint(0, 10 ** 9)])
        met.append(block)
        stream.append(block)
    return stream


class ExamplesTest(CallTest):
    def test_examples(self):
        used, begun, some = last_used(3), [7, 8, 9], [7, 5, 8]
        self.assertEqual(
            [outcomes_of(used, begun, some), row_behind(used, begun, some), gone(used, begun, some),
             lines_behind(used, begun, some)], [[True, False, False], [7, 5, 8], [8, 9], [7, 5, 8]])

    def test_by_name(self):
        self.assertEqual([call(stream=[7, 5, 8], row=[7, 8, 9], rule=last_used(3)) for call in CALLS],
                         [[True, False, False], [7, 5, 8], [8, 9], [7, 5, 8]])

    def test_by_hand(self):
        self.assertEqual(gone(first_in(2), [1, 2], [1, 3, 1, 2, 2]), [1, 2, 3])
        self.assertEqual(lines_behind(first_in(3), [1, 2, 3], [4, 5, 4]), [4, 5, 3])
        self.assertEqual(row_behind(first_in(3), [1, 2, 3], [4, 5, 4]), [3, 4, 5])
        self.assertEqual(lines_behind(last_used(2), [1, 2], [1, 3, 2]), [2, 3])
        self.assertEqual(row_behind([[1, 2, 0]] * 3, [1, 2, 3], [2]), [3, 1, 2])


class DrawnTest(CallTest):
    def check(self, rule, row, stream):
        cache = ran(rule, row, stream)
        outcomes = self.steady(outcomes_of, rule, row, stream)
        behind = self.steady(row_behind, rule, row, stream)
        out = self.steady(gone, rule, row, stream)
        lines = self.steady(lines_behind, rule, row, stream)
        self.assertEqual([outcomes, behind, out, lines], [cache.outcomes, cache.row(), cache.gone, cache.lines])
        self.assertTrue(all(type(one) is bool for one in outcomes))
        self.assertEqual(len(out), outcomes.count(False))
        self.assertEqual(sorted(lines), sorted(behind))

    def test_drawn_rules(self):
        rng = drawn(50)
        for k in range(2, 13):
            for length in [0, 1, 2, 3, 5, 8, 20, 60, 400]:
                row = draw_row(rng, k)
                self.check(draw_rule(rng, k), row, draw_stream(rng, row, length))

    def test_named_rules(self):
        rng = drawn(51)
        for k in range(2, 13):
            for rule in [first_in(k), last_used(k), climbing(k)] + ([tree(k)] if k in (2, 4, 8) else []):
                row = draw_row(rng, k)
                self.check(rule, row, draw_stream(rng, row, 80))

    def test_no_access(self):
        for k in range(2, 13):
            row = list(range(k))
            self.assertEqual([call(first_in(k), row, []) for call in CALLS], [[], row, [], row])
            self.assertIsNot(row_behind(first_in(k), row, []), row)
            self.assertIsNot(lines_behind(first_in(k), row, []), row)

    def test_more_than_four_hundred(self):
        rng = drawn(52)
        row = draw_row(rng, 4)
        self.check(tree(4), row, draw_stream(rng, row, 600))


class ErrorsTest(CallTest):
    def test_no_rule(self):
        for value, index in NO_RULE:
            with self.subTest(value=value):
                for call in CALLS:
                    self.fails(InvalidRule, {"index": index}, call, value, [5, 6], [5])
                    self.fails(InvalidRule, {"index": index}, call, value, None, None)
                    self.fails(InvalidRule, {"index": index}, call, value, [5, 5], [True])

    def test_no_row(self):
        for value, index in NO_ROW:
            with self.subTest(value=value):
                for call in CALLS:
                    self.fails(InvalidRow, {"index": index}, call, first_in(2), value, [5])
                    self.fails(InvalidRow, {"index": index}, call, first_in(2), value, None)
                    self.fails(InvalidRow, {"index": index}, call, first_in(2), value, [-1])

    def test_rows_of_other_sizes(self):
        for k in range(2, 13):
            for many in (0, 1, k - 1, k + 1, 13):
                for call in CALLS:
                    if many != k:
                        self.fails(InvalidRow, {"index": None}, call, first_in(k), list(range(many)), [])
            for place in range(k):
                for wrong in (-1, 10 ** 9 + 1, True, None, "1", [1]):
                    row = list(range(10, 10 + k))
                    row[place] = wrong
                    self.fails(InvalidRow, {"index": place}, row_behind, first_in(k), row, [])
            self.fails(InvalidRow, {"index": k - 1}, gone, first_in(k), list(range(k - 1)) + [0], [])

    def test_no_stream(self):
        for value, index in NO_STREAM:
            with self.subTest(value=value):
                for call in CALLS:
                    self.fails(InvalidStream, {"index": index}, call, first_in(2), [5, 6], value)
                    self.fails(InvalidStream, {"index": index}, call, tree(4), [1, 2, 3, 4], value)


if __name__ == "__main__":
    unittest.main()
