"""Rules: [2] to [6] and the interface of goesnext.rules."""

import copy
import unittest

from goesnext.errors import InvalidNumber
from goesnext.parting import fitting
from goesnext.rules import climbing, first_in, is_rule, last_used, raised, tree
from model import WRONG_KINDS, BitTree, CallTest, draw_row, draw_rule, drawn, model_outcomes

NO_K = [1, 0, -1, -2, 13, 14, 10 ** 20, True, False, None, "", "2", "two", [], [2], (), (2,), {}, {"k": 2}]


def moved(targets):
    """The rule by [6], made by taking the block out and putting it in again."""
    rule = []
    for i, target in enumerate(targets):
        row = list(range(len(targets)))
        row.insert(target, row.pop(i))
        rule.append([row.index(j) for j in range(len(targets))])
    return rule


class IsRuleTest(CallTest):
    def test_rules_of_all_sizes(self):
        rng = drawn(10)
        for k in range(2, 13):
            for rule in [draw_rule(rng, k), [list(range(k)) for _ in range(k)]]:
                self.assertIs(self.steady(is_rule, rule), True)

    def test_other_sizes(self):
        for size in (0, 1, 13, 14):
            self.assertIs(self.steady(is_rule, [list(range(size)) for _ in range(size)]), False)

    def test_other_values(self):
        rows = [[], [[0, 1]], [[0], [0]], [[0, 1, 2], [0, 1, 2]], [[0, 1], [0, 1], [0, 1]], [[0, 1], [0]],
                [[0], [0, 1]], [[0, 1], [0, 1, 2]], [[0, 1], (0, 1)], [(0, 1), (0, 1)], ([0, 1], [0, 1]),
                [[0, 1], "01"], [[0, 1], None], [[0, 1], [1, 1]], [[0, 1], [1, 2]], [[0, 1], [-1, 0]],
                [[0, 1], [0, True]], [[False, 1], [0, 1]], [[0, 1], [[0], 1]], [0, 1], [[0, 1], 1], {"a": [0, 1]},
                [[[0, 1], [0, 1]], [[0, 1], [0, 1]]], [{}, {}]]
        for value in WRONG_KINDS + rows:
            with self.subTest(value=value):
                self.assertIs(self.steady(is_rule, value), False)

    def test_one_item_wrong(self):
        rng = drawn(11)
        for k in range(2, 13):
            rule = draw_rule(rng, k)
            for i in range(k):
                for wrong in [rule[i][:-1], rule[i] + [k], tuple(rule[i]), rule[i][1:] + rule[i][1:2], None, 0, "0 1"]:
                    other = copy.deepcopy(rule)
                    other[i] = wrong
                    self.assertIs(is_rule(other), False)

    def test_equal_inner_lists_may_be_one_list(self):
        moves = [1, 0]
        self.assertIs(is_rule(value=[moves, moves]), True)


class NamedRulesTest(CallTest):
    def test_examples(self):
        self.assertEqual([last_used(3), climbing(3), raised([1, 1, 2])], [
            [[2, 0, 1], [0, 2, 1], [0, 1, 2]], [[1, 0, 2], [0, 2, 1], [0, 1, 2]], [[1, 0, 2], [0, 1, 2], [0, 1, 2]]])
        self.assertEqual(tree(4), [[3, 0, 1, 2], [0, 3, 2, 1], [1, 0, 3, 2], [0, 1, 2, 3]])

    def test_by_hand(self):
        self.assertEqual(first_in(2), [[0, 1], [0, 1]])
        self.assertEqual(last_used(2), [[1, 0], [0, 1]])
        self.assertEqual(raised([2, 3, 2, 3]), [[2, 0, 1, 3], [0, 3, 1, 2], [0, 1, 2, 3], [0, 1, 2, 3]])
        self.assertEqual(tree(2), [[1, 0], [0, 1]])
        self.assertEqual(tree(8)[0], [7, 0, 1, 2, 3, 4, 5, 6])
        self.assertEqual(tree(8)[5], [0, 3, 2, 1, 4, 7, 6, 5])

    def test_by_name(self):
        self.assertEqual([first_in(k=3), last_used(k=3), climbing(k=3), tree(k=4), raised(targets=[1, 1])],
                         [first_in(3), last_used(3), climbing(3), tree(4), last_used(2)])

    def test_what_a_hit_does(self):
        for k in range(2, 13):
            queue, used = list(range(k)), [k - 1] * k
            up = list(range(1, k)) + [k - 1]
            for call, targets in [(first_in, queue), (last_used, used), (climbing, up)]:
                made = self.steady(call, k)
                self.assertEqual(made, moved(targets))
                self.assertEqual(made, raised(targets))
                self.assertIs(is_rule(made), True)
            self.assertEqual(first_in(k), [queue for _ in range(k)])

    def test_raised(self):
        rng = drawn(12)
        for k in range(2, 13):
            for _ in range(12):
                targets = [rng.randint(i, k - 1) for i in range(k)]
                self.assertEqual(self.steady(raised, targets), moved(targets))

    def test_inner_lists_are_new(self):
        for rule in [first_in(3), last_used(3), climbing(3), raised([0, 1, 2]), tree(4)]:
            whole = copy.deepcopy(rule)
            rule[0].reverse()
            self.assertEqual(rule[1:], whole[1:])
        self.assertEqual(first_in(3), [[0, 1, 2], [0, 1, 2], [0, 1, 2]])

    def test_tree_moves_by_bits(self):
        for k in (2, 4, 8):
            made = self.steady(tree, k)
            self.assertIs(is_rule(made), True)
            for i in range(k):
                self.assertEqual(made[i][i], k - 1)
                for j in [j for j in range(k) if j != i]:
                    t = min(bit for bit in range(3) if (i >> bit) % 2 != (j >> bit) % 2)
                    bits = [1 if bit < t else 0 if bit == t else (j >> bit) % 2 for bit in range(3)]
                    self.assertEqual(made[i][j], bits[0] + 2 * bits[1] + 4 * bits[2])

    def test_tree_keeps_the_bits(self):
        rng = drawn(13)
        for k in (2, 4, 8):
            for _ in range(30):
                lines = BitTree(draw_row(rng, k))
                for block in rng.sample(lines.blocks, k):
                    lines.access(block)
                row = lines.row()
                blocks = row + [block for block in range(100, 104 + k // 2) if block not in row]
                stream = [rng.choice(blocks) for _ in range(60)]
                outcomes = [lines.access(block) for block in stream]
                self.assertEqual(fitting([tree(k)], row, stream, outcomes), [0])

    def test_outcomes_of_a_queue_and_of_last_used(self):
        rng = drawn(14)
        for k in range(2, 13):
            row = draw_row(rng, k)
            stream = [rng.choice(row + [7, 8, 9]) for _ in range(80)]
            queue, used, in_queue, in_used = list(row), list(row), [], []
            for block in stream:
                in_queue.append(block in queue)
                queue = queue if block in queue else queue[1:] + [block]
                in_used.append(block in used)
                used = [one for one in used if one != block][-(k - 1):] + [block]
            self.assertEqual(in_queue, model_outcomes(first_in(k), row, stream))
            self.assertIn(0, fitting([first_in(k)], row, stream, in_queue))
            self.assertIn(0, fitting([last_used(k)], row, stream, in_used))


class ErrorsTest(CallTest):
    def test_k(self):
        for k in NO_K:
            with self.subTest(k=k):
                for call in (first_in, last_used, climbing, tree):
                    self.fails(InvalidNumber, {}, call, k)
                    self.fails(InvalidNumber, {}, call, k=k)

    def test_tree_has_three_sizes(self):
        for k in range(-20, 70):
            if k not in (2, 4, 8):
                self.fails(InvalidNumber, {}, tree, k)

    def test_targets(self):
        wrong = WRONG_KINDS + [[], [0], [0, 0], [1, 0], [2, 1], [0, 2], [-1, 1], [0, 1, 1], [3, 1, 2], [0, 3, 2],
                               [True, 1], [1, True], [0, "1"], [0, None], [0, [1]], [(0,), 1], ([1, 1],), (1, 1),
                               {"0": 1}, list(range(13)), list(range(14)), [12] * 13]
        for targets in wrong:
            with self.subTest(targets=targets):
                self.fails(InvalidNumber, {}, raised, targets)

    def test_one_target_wrong(self):
        for k in range(2, 13):
            for place in range(k):
                for wrong in [place - 1, k, -1, True, "0", None, [place], (place,)]:
                    targets = [k - 1] * k
                    targets[place] = wrong
                    self.fails(InvalidNumber, {}, raised, targets)


if __name__ == "__main__":
    unittest.main()
