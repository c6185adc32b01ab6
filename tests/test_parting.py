"""Parting streams: [2] to [5], [7] and the interface of goesnext.parting."""

import copy
import itertools
import unittest

from goesnext.errors import InvalidOutcomes, InvalidRow, InvalidRule, InvalidRules, InvalidStream, OtherSize
from goesnext.parting import fitting, is_parting, parting_stream, shortest_parting, tell_apart, tells_apart
from goesnext.rules import climbing, first_in, last_used, tree
from model import (NO_ROW, NO_RULE, NO_STREAM, WRONG_KINDS, CallTest, draw_row, draw_rule, drawn, model_outcomes,
                   nearly)

NO_RULES = [(value, None) for value in WRONG_KINDS if not isinstance(value, list)] + [
    ([], None), ((first_in(2),), None), ({"0": first_in(2)}, None), ("rules", None),
    ([[]], 0), ([None], 0), ([first_in(2), None], 1), (first_in(2), 0), ([first_in(2), first_in(3)], 1),
    ([first_in(2), last_used(2), climbing(3), None], 2), ([first_in(2), tuple(last_used(2))], 1),
    ([[[0, 1], [0, 0]], first_in(3)], 0), ([first_in(2), [[0, 1], [True, 0]]], 1), ([[[0, 1], (0, 1)]], 0),
    ([first_in(2)] * 8 + [first_in(3)], 8),
]


def parts_in(one, other, first, second, blocks, many):
    """Whether some stream of at most so many accesses has unlike outcomes, tried one after another."""
    if many == 0:
        return False
    new = max(blocks) + 1
    for block in blocks + [new]:
        if (block in first) != (block in second):
            return True
    for block in blocks + [new]:
        here, there = step(one, first, block), step(other, second, block)
        if parts_in(one, other, here, there, blocks + [new] * (block == new), many - 1):
            return True
    return False


def step(rule, row, block):
    if block not in row:
        return row[1:] + [block]
    moves = rule[row.index(block)]
    return [row[moves.index(place)] for place in range(len(row))]


def some_pairs(rng, k, many):
    """Pairs of unlike rules, half of them unlike in two items only."""
    pairs = []
    while len(pairs) < many:
        one = draw_rule(rng, k)
        other = draw_rule(rng, k) if len(pairs) % 2 else nearly(rng, one)
        if one != other:
            pairs.append((one, other))
    return pairs


def late(k):
    """Two rules that are unlike only in the two highest places behind a hit at place 0."""
    other = first_in(k)
    other[0] = list(range(k - 2)) + [k - 1, k - 2]
    return first_in(k), other


class ExamplesTest(unittest.TestCase):
    def test_two_rules(self):
        self.assertEqual(
            [is_parting(first_in(3), last_used(3), [1, 2, 3], [1, 4, 1]),
             len(shortest_parting(first_in(3), last_used(3), [1, 2, 3])), parting_stream(tree(2), last_used(2), [1, 2])],
            [True, 3, None])

    def test_some_rules(self):
        three = [first_in(3), last_used(3), climbing(3)]
        self.assertEqual([tells_apart(three, [1, 2, 3], [1, 4, 1]),
                          fitting(three, [1, 2, 3], [1, 4, 1], [True, False, True])], [False, [1, 2]])

    def test_by_name(self):
        one, other, row = first_in(2), last_used(2), [1, 2]
        stream = parting_stream(row=row, other=other, one=one)
        self.assertTrue(is_parting(value=stream, row=row, other=other, one=one))
        self.assertEqual(len(shortest_parting(row=row, other=other, one=one)), 3)
        stream = tell_apart(row=row, rules=[one, other])
        self.assertTrue(tells_apart(value=stream, row=row, rules=[one, other]))
        outcomes = model_outcomes(other, row, stream)
        self.assertEqual(fitting(outcomes=outcomes, stream=stream, row=row, rules=[one, other]), [1])


class PartingStreamTest(CallTest):
    def parts(self, one, other, row, stream):
        self.assertNotEqual(model_outcomes(one, row, stream), model_outcomes(other, row, stream))
        self.assertLessEqual(len(stream), len(one) + 1)
        self.assertTrue(all(type(block) is int and 0 <= block <= 10 ** 9 for block in stream))

    def test_unlike_rules_of_all_sizes(self):
        rng = drawn(20)
        for k in range(2, 13):
            for one, other in some_pairs(rng, k, 30):
                row = draw_row(rng, k)
                self.parts(one, other, row, self.steady(parting_stream, one, other, row))

    def test_rows_at_the_limits(self):
        for k in range(2, 13):
            for row in [list(range(k)), list(range(k))[::-1], list(range(10 ** 9 - k + 1, 10 ** 9 + 1)),
                        list(range(0, 2 * k, 2)), list(range(1, k)) + [10 ** 9]]:
                one, other = late(k)
                for pair in [(one, other), (other, one), (first_in(k), last_used(k)), (climbing(k), first_in(k))]:
                    self.parts(*pair, row, parting_stream(*pair, row))

    def test_equal_rules(self):
        rng = drawn(21)
        for k in range(2, 13):
            rule = draw_rule(rng, k)
            row = draw_row(rng, k)
            self.assertIsNone(self.steady(parting_stream, rule, copy.deepcopy(rule), row))
            self.assertIsNone(parting_stream(rule, rule, row))

    def test_all_rules_of_two_places(self):
        rules = [list(map(list, rule)) for rule in itertools.product([(0, 1), (1, 0)], repeat=2)]
        for one, other in itertools.product(rules, repeat=2):
            for call in (parting_stream, shortest_parting):
                stream = self.steady(call, one, other, [0, 1])
                if one == other:
                    self.assertIsNone(stream)
                else:
                    self.parts(one, other, [0, 1], stream)
                    self.assertEqual(len(stream), 3)


class ShortestPartingTest(CallTest):
    def check(self, one, other, row):
        stream = self.steady(shortest_parting, one, other, row)
        self.assertNotEqual(model_outcomes(one, row, stream), model_outcomes(other, row, stream))
        self.assertTrue(is_parting(one, other, row, stream))
        self.assertFalse(parts_in(one, other, row, row, row, len(stream) - 1))

    def test_against_all_streams(self):
        rng = drawn(22)
        for k, many in [(2, 10), (3, 120), (4, 40), (5, 12)]:
            for one, other in some_pairs(rng, k, many):
                self.check(one, other, rng.sample(range(12), k))

    def test_long_ones(self):
        for k in range(2, 6):
            one, other = late(k)
            self.assertEqual(len(shortest_parting(one, other, list(range(k)))), k + 1)
            self.check(one, other, list(range(k)))
            self.check(other, one, list(range(10 ** 9, 10 ** 9 - k, -1)))

    def test_equal_rules(self):
        rng = drawn(23)
        for k in range(2, 6):
            rule = draw_rule(rng, k)
            self.assertIsNone(self.steady(shortest_parting, rule, copy.deepcopy(rule), draw_row(rng, k)))

    def test_hits_that_bring_the_difference_down(self):
        hits = [[[3, 0, 1, 2], [0, 3, 1, 2], [0, 1, 3, 2], [0, 1, 2, 3]], [[3, 0, 1, 2], [0, 3, 1, 2], [0, 1, 3, 2],
                                                                          [0, 1, 3, 2]]]
        self.check(hits[0], hits[1], [4, 3, 2, 1])


class IsPartingTest(CallTest):
    def test_streams(self):
        rng = drawn(24)
        for k in range(2, 13):
            for one, other in some_pairs(rng, k, 10):
                row = draw_row(rng, k)
                for length in (0, 1, 3, 8, 30):
                    stream = [rng.choice(row + [4, 5]) for _ in range(length)]
                    told = model_outcomes(one, row, stream) != model_outcomes(other, row, stream)
                    self.assertIs(self.steady(is_parting, one, other, row, stream), told)
                self.assertIs(is_parting(one, one, row, stream), False)

    def test_long_streams(self):
        long = [1] * 500 + [4, 1]
        self.assertIs(is_parting(first_in(3), last_used(3), [1, 2, 3], long), True)
        self.assertIs(is_parting(first_in(3), last_used(3), [1, 2, 3], [1] * 500), False)

    def test_other_values(self):
        wrong = [value for value, _ in NO_STREAM] + [(1, 4, 1), [1, 4, True], [True, 4, 1], "141", [[1, 4, 1]],
                                                     [1, 4, 1, -1], [1, 4, 1, 10 ** 9 + 1], [1, 4, 1, None]]
        for value in wrong:
            with self.subTest(value=value):
                self.assertIs(self.steady(is_parting, first_in(3), last_used(3), [1, 2, 3], value), False)
                self.assertIs(self.steady(tells_apart, [first_in(3), last_used(3)], [1, 2, 3], value), False)
                self.assertIs(self.steady(tells_apart, [first_in(3)], [1, 2, 3], value), False)

    def test_greatest_block(self):
        self.assertIs(is_parting(first_in(2), last_used(2), [0, 10 ** 9], [0, 5, 0]), True)
        self.assertIs(is_parting(first_in(2), last_used(2), [0, 1], [0, 10 ** 9, 0]), True)


class TellApartTest(CallTest):
    def check(self, rules, row):
        stream = self.steady(tell_apart, rules, row)
        told = [model_outcomes(rule, row, stream) for rule in rules]
        for i, j in itertools.combinations(range(len(rules)), 2):
            self.assertEqual(rules[i] == rules[j], told[i] == told[j])
        self.assertTrue(all(type(block) is int and 0 <= block <= 10 ** 9 for block in stream))
        self.assertLessEqual(len(stream), 400)
        self.assertIs(tells_apart(rules, row, stream), True)
        for rule, outcomes in zip(rules, told):
            alike = [index for index, other in enumerate(rules) if other == rule]
            self.assertEqual(self.steady(fitting, rules, row, stream, outcomes), alike)
            self.assertIs(is_parting(rules[0], rule, row, stream), rules[0] != rule)
        if all(rule == rules[0] for rule in rules):
            self.assertEqual(stream, [])

    def test_drawn_rules(self):
        rng = drawn(25)
        for k in range(2, 13):
            for many in range(1, 9):
                rules = [draw_rule(rng, k)]
                while len(rules) < many:
                    kind, old = rng.randrange(3), rng.choice(rules)
                    rules.append([draw_rule(rng, k), nearly(rng, old), copy.deepcopy(old)][kind])
                self.check(rules, draw_row(rng, k))
                self.check(rules, list(range(k)))

    def test_rules_that_part_late(self):
        for k in range(3, 13):
            rules = []
            for place in range(8):
                rule = first_in(k)
                rule[place % k] = late(k)[1][0]
                rules.append(rule)
            self.check(rules, list(range(k)))
            self.check(rules, list(range(10 ** 9, 10 ** 9 - k, -1)))

    def test_equal_rules(self):
        for many in range(1, 9):
            self.assertEqual(self.steady(tell_apart, [tree(4) for _ in range(many)], [1, 2, 3, 4]), [])
            self.assertIs(tells_apart([tree(4) for _ in range(many)], [1, 2, 3, 4], []), True)

    def test_more_than_eight(self):
        rng = drawn(26)
        self.check([draw_rule(rng, 4) for _ in range(12)], [1, 2, 3, 4])
        self.check([nearly(rng, tree(8)) for _ in range(20)] + [tree(8)], list(range(8)))

    def test_tells_apart_judges_each_two(self):
        rng = drawn(27)
        for _ in range(150):
            k = rng.randint(2, 5)
            rules = [draw_rule(rng, k) for _ in range(rng.randint(1, 4))]
            rules += [copy.deepcopy(rules[0])] * rng.randint(0, 1)
            row = draw_row(rng, k)
            stream = [rng.choice(row + [4, 5]) for _ in range(rng.randint(0, 20))]
            told = [model_outcomes(rule, row, stream) for rule in rules]
            apart = all(told[i] != told[j] or rules[i] == rules[j]
                        for i, j in itertools.combinations(range(len(rules)), 2))
            self.assertIs(self.steady(tells_apart, rules, row, stream), apart)

    def test_only_two_are_left_together(self):
        rules = [first_in(3), last_used(3), climbing(3)]
        self.assertIs(tells_apart(rules, [1, 2, 3], [1, 4, 1, 5, 6, 1]), True)
        self.assertIs(tells_apart(rules[1:], [1, 2, 3], [1, 4, 1]), False)
        self.assertIs(tells_apart(rules[:2], [1, 2, 3], [1, 4, 1]), True)


class FittingTest(CallTest):
    def test_drawn_outcomes(self):
        rng = drawn(28)
        for _ in range(150):
            k = rng.randint(2, 12)
            rules = [draw_rule(rng, k) for _ in range(rng.randint(1, 8))]
            row = draw_row(rng, k)
            stream = [rng.choice(row + [4, 5, 6]) for _ in range(rng.randint(0, 6))]
            outcomes = rng.choice([model_outcomes(rng.choice(rules), row, stream), [rng.random() < 0.5 for _ in stream]])
            fits = [index for index, rule in enumerate(rules) if model_outcomes(rule, row, stream) == outcomes]
            self.assertEqual(self.steady(fitting, rules, row, stream, outcomes), fits)

    def test_by_hand(self):
        rules = [first_in(2), last_used(2)]
        self.assertEqual(fitting(rules, [1, 2], [1, 3, 2, 1], [True, False, True, False]), [0])
        self.assertEqual(fitting(rules, [1, 2], [1, 3, 1, 2], [True, False, True, False]), [1])
        self.assertEqual(fitting(rules, [1, 2], [1, 3, 3], [True, False, False]), [])
        self.assertEqual(fitting(rules, [1, 2], [], []), [0, 1])

    def test_long_streams(self):
        self.assertEqual(fitting([first_in(2)], [1, 2], [1] * 450, [True] * 450), [0])


class ErrorsTest(CallTest):
    def test_no_rule(self):
        row = [5, 6]
        for value, index in NO_RULE:
            with self.subTest(value=value):
                for call in (parting_stream, shortest_parting):
                    self.fails(InvalidRule, {"index": index}, call, value, first_in(2), row)
                    self.fails(InvalidRule, {"index": index}, call, first_in(2), value, row)
                    self.fails(InvalidRule, {"index": index}, call, value, None, None)
                    self.fails(InvalidRule, {"index": index}, call, first_in(3), value, None)
                self.fails(InvalidRule, {"index": index}, is_parting, value, [[0, 1], [1, 1]], row, [])
                self.fails(InvalidRule, {"index": index}, is_parting, first_in(3), value, None, None)

    def test_other_size(self):
        for one, other in itertools.permutations(range(2, 13), 2):
            for row in (list(range(one)), list(range(other)), None, [0, 0]):
                self.fails(OtherSize, {}, parting_stream, first_in(one), last_used(other), row)
                self.fails(OtherSize, {}, shortest_parting, first_in(one), last_used(other), row)
                self.fails(OtherSize, {}, is_parting, first_in(one), last_used(other), row, None)

    def test_no_row(self):
        two = [first_in(2), last_used(2)]
        for value, index in NO_ROW:
            with self.subTest(value=value):
                for pair in (two, [first_in(2), first_in(2)]):
                    self.fails(InvalidRow, {"index": index}, parting_stream, *pair, value)
                    self.fails(InvalidRow, {"index": index}, shortest_parting, *pair, value)
                    self.fails(InvalidRow, {"index": index}, is_parting, *pair, value, None)
                    self.fails(InvalidRow, {"index": index}, tell_apart, pair, value)
                    self.fails(InvalidRow, {"index": index}, tells_apart, pair, value, None)
                    self.fails(InvalidRow, {"index": index}, fitting, pair, value, None, None)

    def test_later_items_of_a_row(self):
        for k in range(2, 13):
            for place in range(1, k):
                row = list(range(k))
                row[place] = place - 1
                self.fails(InvalidRow, {"index": place}, parting_stream, first_in(k), last_used(k), row)
            self.fails(InvalidRow, {"index": None}, tell_apart, [first_in(k)], list(range(k - 1)))
            self.fails(InvalidRow, {"index": None}, tell_apart, [first_in(k)], list(range(k + 1)))

    def test_no_rules(self):
        for value, index in NO_RULES:
            with self.subTest(value=value):
                for row in ([5, 6], None):
                    self.fails(InvalidRules, {"index": index}, tell_apart, value, row)
                    self.fails(InvalidRules, {"index": index}, tells_apart, value, row, None)
                    self.fails(InvalidRules, {"index": index}, fitting, value, row, None, None)

    def test_no_stream(self):
        for value, index in NO_STREAM:
            with self.subTest(value=value):
                for outcomes in ([True], [], None):
                    self.fails(InvalidStream, {"index": index}, fitting, [first_in(2)], [5, 6], value, outcomes)

    def test_no_outcomes(self):
        wrong = WRONG_KINDS + [[], [True], [True, False, True], (True, False), [True, None], [1, 0], [True, 0],
                               ["True", True], [True, [True]], "+-", {"0": True}]
        for outcomes in wrong:
            with self.subTest(outcomes=outcomes):
                self.fails(InvalidOutcomes, {}, fitting, [first_in(2)], [5, 6], [5, 7], outcomes)
        self.fails(InvalidOutcomes, {}, fitting, [first_in(2)], [5, 6], [], [True])

    def test_values_to_be_judged_raise_nothing(self):
        for value in WRONG_KINDS + [value for value, _ in NO_STREAM]:
            if value != [] and not (isinstance(value, list) and all(type(item) is int for item in value)):
                self.assertIs(is_parting(first_in(2), last_used(2), [5, 6], value), False)
                self.assertIs(tells_apart([first_in(2), first_in(2)], [5, 6], value), False)


if __name__ == "__main__":
    unittest.main()
