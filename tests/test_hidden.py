"""Hidden caches: [2] to [5] and the interface of goesnext.hidden."""

import copy
import unittest

from goesnext.errors import InvalidRule, InvalidStream
from goesnext.hidden import Hidden, read_rule
from goesnext.records import rows_left
from goesnext.rules import climbing, first_in, last_used, tree
from model import NO_RULE, NO_STREAM, CallTest, draw_rule, drawn, model_outcomes, nearly


def some_rules(rng, k):
    named = [first_in(k), last_used(k), climbing(k)] + ([tree(k)] if k in (2, 4, 8) else [])
    return named + [nearly(rng, first_in(k)), nearly(rng, last_used(k)), draw_rule(rng, k), draw_rule(rng, k)]


def strangers(k):
    """A first row that no stream has a block of."""
    return [f"stranger {place}" for place in range(k)]


def draw_stream(rng, length):
    blocks = rng.sample([0, 1, 2, 3, 4, 5, 6, 7, 10 ** 9, 10 ** 9 - 1] + list(range(100, 130)), rng.randint(1, 20))
    return [rng.choice(blocks) for _ in range(length)]


class ExamplesTest(unittest.TestCase):
    def test_example(self):
        hidden = Hidden(tree(4))
        self.assertEqual([hidden.ask([1, 2, 1]), hidden.asks, read_rule(hidden) == tree(4), hidden.asks <= 77],
                         [[False, False, True], 1, True, True])

    def test_by_name(self):
        hidden = Hidden(rule=climbing(3))
        self.assertEqual(hidden.ask(stream=[1, 1]), [False, True])
        self.assertEqual(read_rule(hidden=hidden), climbing(3))


class AskTest(CallTest):
    def test_outcomes(self):
        rng = drawn(120)
        for k in range(2, 13):
            for rule in some_rules(rng, k):
                hidden = Hidden(rule)
                for length in (0, 1, 2, 5, 20, 60, 400):
                    stream = draw_stream(rng, length)
                    outcomes = self.steady(hidden.ask, stream)
                    self.assertEqual(outcomes, model_outcomes(rule, strangers(k), stream))
                    self.assertTrue(all(type(one) is bool for one in outcomes))

    def test_each_time_from_the_same_first_row(self):
        hidden = Hidden(first_in(3))
        for _ in range(20):
            self.assertEqual(hidden.ask([5, 5, 6, 7, 8, 5]), [False, True, False, False, False, False])
            self.assertEqual(hidden.ask([5]), [False])

    def test_no_block_of_a_stream_is_there_at_first(self):
        hidden = Hidden(tree(8))
        for stream in [list(range(400)), list(range(10 ** 9, 10 ** 9 - 400, -1)), list(range(0, 10 ** 9, 2500001))]:
            self.assertEqual(hidden.ask(stream), [False] * 400)

    def test_more_than_four_hundred(self):
        self.assertEqual(Hidden(first_in(2)).ask([4] * 600), [False] + [True] * 599)

    def test_independent_of_each_other(self):
        one, other = Hidden(first_in(2)), Hidden(last_used(2))
        stream = [1, 2, 1, 3, 1]
        self.assertEqual(one.ask(stream), [False, False, True, False, False])
        self.assertEqual(other.ask(stream), [False, False, True, False, True])
        self.assertEqual([one.asks, other.asks, Hidden(first_in(2)).asks], [1, 1, 0])


class AsksTest(CallTest):
    def test_calls_are_counted(self):
        hidden = Hidden(last_used(4))
        self.assertEqual(hidden.asks, 0)
        for many in range(1, 50):
            hidden.ask([many] * (many % 4))
            self.assertEqual([hidden.asks, hidden.asks], [many, many])
        self.assertIs(type(hidden.asks), int)

    def test_calls_with_an_error_are_not(self):
        hidden = Hidden(last_used(4))
        hidden.ask([])
        for value, index in NO_STREAM:
            with self.subTest(value=value):
                self.fails(InvalidStream, {"index": index}, hidden.ask, value)
                self.assertEqual(hidden.asks, 1)
        self.assertEqual(hidden.ask([1, 1]), [False, True])
        self.assertEqual(hidden.asks, 2)

    def test_asks_is_not_set(self):
        hidden = Hidden(last_used(4))
        with self.assertRaises(AttributeError):
            hidden.asks = 5
        self.assertEqual(hidden.asks, 0)


class ConstructorTest(CallTest):
    def test_no_rule(self):
        for value, index in NO_RULE:
            with self.subTest(value=value):
                self.fails(InvalidRule, {"index": index}, Hidden, value)

    def test_a_rule_that_is_changed_later(self):
        rng = drawn(121)
        for k in range(2, 13):
            rule = draw_rule(rng, k)
            told = copy.deepcopy(rule)
            hidden = Hidden(rule)
            stream = list(range(k)) * 3
            self.assertEqual(rule, told)
            rule[0].reverse()
            rule[-1][:] = range(k)
            rule.append("more")
            self.assertEqual(hidden.ask(stream), model_outcomes(told, strangers(k), stream))
            self.assertEqual(read_rule(hidden), told)


class ReadRuleTest(CallTest):
    def test_rules_of_all_sizes(self):
        rng = drawn(122)
        for k in range(2, 13):
            for rule in some_rules(rng, k):
                for before in (0, 1, 7):
                    hidden = Hidden(rule)
                    for _ in range(before):
                        hidden.ask(draw_stream(rng, 20))
                    read = read_rule(hidden)
                    self.assertEqual(read, rule)
                    self.assertLessEqual(hidden.asks - before, 4 * k * k + 12)
                    self.assertGreater(hidden.asks, before)
                    self.assertTrue(all(type(item) is int for moves in read for item in moves))

    def test_each_call_counts(self):
        class Watched(Hidden):
            def ask(self, stream):
                streams.append(list(stream))
                return super().ask(stream)

        for k in (2, 5, 12):
            streams = []
            hidden = Watched(climbing(k))
            self.assertEqual(read_rule(hidden), climbing(k))
            self.assertEqual(hidden.asks, len(streams))
            self.assertLessEqual(max(len(stream) for stream in streams), 400)

    def test_read_again(self):
        hidden = Hidden(tree(8))
        first = read_rule(hidden)
        many = hidden.asks
        again = read_rule(hidden)
        self.assertEqual(hidden.asks, 2 * many)
        self.assertEqual(first, again)
        first[0].reverse()
        first.pop()
        self.assertEqual([again, read_rule(hidden)], [tree(8), tree(8)])
        self.assertEqual(len({id(moves) for moves in again}), 8)

    def test_all_rules_of_two_places(self):
        for rule in ([[0, 1], [0, 1]], [[1, 0], [0, 1]], [[0, 1], [1, 0]], [[1, 0], [1, 0]]):
            self.assertEqual(read_rule(Hidden(rule)), rule)

    def test_what_a_record_of_it_tells(self):
        hidden = Hidden(tree(4))
        stream = [1, 2, 3, 4, 2, 5, 1]
        self.assertEqual(rows_left(tree(4), stream, hidden.ask(stream)), [[3, 2, 5, 1]])


if __name__ == "__main__":
    unittest.main()
