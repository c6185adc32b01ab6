"""The tables of rules, of trees of bits and of marks: [10] and the interface of goesnext.tables."""

import itertools
import math
import unittest

from goesnext.errors import InvalidNumber, InvalidRule, TooMany
from goesnext.groups import states_needed
from goesnext.rules import climbing, first_in, last_used, tree
from goesnext.tables import (is_table, least_table, marks_table, needed_states, order_at, rule_of, table_for,
                             tree_table, why_not)
from model import NO_RULE, BitTree, CallTest, ModelCache, draw_rule, drawn
from table_model import draw_small_rule, numbered_as_they_come_up, parted_by, table_of

NO_NUMBER = [-1, 0, 1, 13, 10 ** 20, True, False, None, "", "2", "4", [], [2], (), (2,), {}, {"k": 2}]


class MarkedLines:
    """Lines with marks: an access marks its line, and the first line without a mark goes next."""

    def __init__(self, blocks):
        self.blocks = list(blocks)
        self.marked = set()

    def access(self, block):
        hit = block in self.blocks
        every = range(len(self.blocks))
        line = self.blocks.index(block) if hit else min(one for one in every if one not in self.marked)
        self.blocks[line] = block
        self.marked.add(line)
        if len(self.marked) == len(self.blocks):
            self.marked = {line}
        return hit


class RuleLines(ModelCache):
    """The lines of a rule, with the block p at place p in line p at first."""

    @property
    def blocks(self):
        return self.lines


def raw_marks(k):
    """A table of marks with a state for each set of marks that comes up."""
    found = [frozenset()]
    rows = []
    for marked in found:
        hits = []
        for line in range(k):
            now = marked | {line}
            hits.append(now if len(now) < k else frozenset({line}))
        out = min(set(range(k)) - marked)
        for now in hits:
            if now not in found:
                found.append(now)
        rows.append((hits, out))
    return [([found.index(now) for now in hits], out, found.index(hits[out])) for hits, out in rows]


class NamedTest(CallTest):
    def follows(self, table, lines, seed, many):
        """The table sends the lines that the lines themselves use."""
        rng = drawn(seed)
        k = len(lines.blocks)
        state = 0
        for new in range(many):
            hits, out, miss = table[state]
            if rng.random() < 0.5:
                line = rng.randrange(k)
                lines.access(lines.blocks[line])
                state = hits[line]
            else:
                lines.access(1000 + new)
                self.assertEqual(lines.blocks.index(1000 + new), out)
                state = miss

    def is_least(self, table):
        self.assertIs(is_table(table), True)
        self.assertIs(numbered_as_they_come_up(table), True)
        for here, there in itertools.combinations(range(len(table)), 2):
            self.assertIsNotNone(parted_by(table, here, table, there))
        self.assertEqual(least_table(table, 0), table)

    def test_tables_of_rules(self):
        rng = drawn(100)
        for k in range(2, 13):
            rules = [first_in(k), draw_small_rule(rng, k), draw_small_rule(rng, k)]
            rules += [last_used(k), climbing(k)] if k < 6 else []
            rules += [draw_rule(rng, k) for _ in range(4)] if k < 5 else []
            for rule in rules + ([tree(k)] if k in (2, 4, 8) else []):
                table = self.steady(table_for, rule)
                self.assertEqual(len(table), states_needed(rule))
                self.assertEqual(order_at(table, 0), list(range(k)))
                self.assertEqual([rule_of(table, 0), needed_states(table, 0)], [rule, len(table)])
                self.assertIsNone(parted_by(table, 0, *table_of(rule)))
                self.is_least(table)
                self.follows(table, RuleLines(rule, range(k)), k, 200)

    def test_by_hand(self):
        self.assertEqual(table_for(first_in(2)), [([0, 0], 0, 1), ([1, 1], 1, 0)])
        self.assertEqual(table_for(last_used(2)), [([1, 0], 0, 1), ([1, 0], 1, 0)])
        self.assertEqual(table_for(rule=first_in(3)), [([0, 0, 0], 0, 1), ([1, 1, 1], 1, 2), ([2, 2, 2], 2, 0)])
        self.assertEqual(marks_table(k=2), [([1, 0], 0, 1), ([1, 0], 1, 0)])
        self.assertEqual(tree_table(k=2), [([1, 0], 0, 1), ([1, 0], 1, 0)])

    def test_trees(self):
        for k, many in [(2, 2), (4, 8), (8, 128)]:
            table = self.steady(tree_table, k)
            self.assertEqual(len(table), many)
            self.assertEqual([rule_of(table, 0), needed_states(table, 0)], [tree(k), many])
            self.is_least(table)
            self.follows(table, BitTree(range(k)), k, 3000)
        self.assertEqual(order_at(tree_table(4), 0), [0, 2, 1, 3])
        self.assertEqual(order_at(tree_table(8), 0), [0, 4, 2, 6, 1, 5, 3, 7])

    def test_marks(self):
        for k in range(2, 7):
            table = self.steady(marks_table, k)
            self.assertIsNone(parted_by(table, 0, raw_marks(k), 0))
            self.is_least(table)
            self.follows(table, MarkedLines(range(k)), k, 3000)
            self.assertEqual(rule_of(table, 0), last_used(2) if k == 2 else None)
            self.assertEqual(why_not(table, 0) is None, k == 2)


class ErrorsTest(CallTest):
    def test_no_rule(self):
        for value, index in NO_RULE:
            with self.subTest(value=value):
                self.fails(InvalidRule, {"index": index}, table_for, value)

    def test_too_many_states(self):
        rng = drawn(101)
        for k in range(6, 13):
            for rule in (last_used(k), climbing(k)):
                self.fails(TooMany, {"limit": 200}, table_for, rule)
        for _ in range(20):
            rule = draw_rule(rng, 5)
            self.assertEqual(math.factorial(5) % len(table_for(rule)), 0)
            rule = draw_rule(rng, 6)
            if states_needed(rule) > 200:
                self.fails(TooMany, {"limit": 200}, table_for, rule)

    def test_two_hundred_states(self):
        # Two rings of five that are turned and mirrored on their own, and exchanged by a miss.
        turn = [(item + 2) % 10 if item % 2 == 0 else item for item in range(10)]
        mirror = [-item % 10 if item % 2 == 0 else item for item in range(10)]
        rule = [turn, mirror] + first_in(10)[2:]
        self.assertEqual(states_needed(rule), 200)
        table = table_for(rule)
        self.assertEqual([len(table), rule_of(table, 0), order_at(table, 0)], [200, rule, list(range(10))])
        self.assertIs(numbered_as_they_come_up(table), True)
        # The same with two rings of six.
        turn = [(item + 2) % 12 if item % 2 == 0 else item for item in range(12)]
        mirror = [-item % 12 if item % 2 == 0 else item for item in range(12)]
        rule = [turn, mirror] + first_in(12)[2:]
        self.assertEqual(states_needed(rule), 288)
        self.fails(TooMany, {"limit": 200}, table_for, rule)

    def test_other_numbers(self):
        for k in NO_NUMBER + [3, 5, 6, 7, 9, 10, 12, 16]:
            with self.subTest(k=k):
                self.fails(InvalidNumber, {}, tree_table, k)
        for k in NO_NUMBER + [7, 8, 9, 12]:
            with self.subTest(k=k):
                self.fails(InvalidNumber, {}, marks_table, k)


if __name__ == "__main__":
    unittest.main()
