"""What hits alone can make: [2] to [6], [9] and the interface of goesnext.reach."""

import itertools
import time
import unittest

from goesnext.errors import InvalidRow, InvalidRule
from goesnext.groups import rows_by_hits
from goesnext.reach import can_reach, far_rows, hits_to, is_way
from goesnext.rules import climbing, first_in, last_used, tree
from goesnext.runs import outcomes_of, row_behind
from model import NO_ROW, NO_RULE, NO_STREAM, WRONG_KINDS, CallTest, draw_row, draw_rule, drawn, ran

NO_GOAL = [(value, index) for value, index in NO_ROW if value not in ([0, False], [1, True])] + [
    ([0, False], 0), ([1, True], 0), ([5, 7], 1), ([7, 5], 0), ([7, 8], 0), ([6, 6], 1), ([6, 7], 1), ([6, True], 1),
    ([10 ** 9, 6], 0),
]


def hit(rule, row, place):
    behind = [None] * len(row)
    for j, block in enumerate(row):
        behind[rule[place][j]] = block
    return behind


def by_steps(rule, row):
    """For each row that hits make the number of hits, found step by step."""
    far = {tuple(row): 0}
    edge = [row]
    while edge:
        behind = [hit(rule, one, place) for one in edge for place in range(len(row))]
        many = max(far.values()) + 1
        edge = []
        for one in behind:
            if tuple(one) not in far:
                far[tuple(one)] = many
                edge.append(one)
    return far


def leads(rule, row, goal, stream):
    """Whether the stream has hits only and leads to the goal, by the test's own cache."""
    cache = ran(rule, row, stream)
    return all(cache.outcomes) and cache.row() == goal


def some_rules(rng, k, many):
    named = [first_in(k), last_used(k), climbing(k)] + ([tree(k)] if k in (2, 4, 8) else [])
    turning = [[(j + turn) % k for j in range(k)] for turn in rng.choices(range(k), k=k)]
    # All hits but one leave the row as it is, so few rows are reached, some of them in many steps.
    lonely = first_in(k)
    lonely[rng.randrange(k)] = rng.sample(range(k), k)
    return named + [turning, lonely] + [draw_rule(rng, k) for _ in range(many)]


class ExamplesTest(unittest.TestCase):
    def test_examples(self):
        self.assertEqual([hits_to(last_used(3), [1, 2, 3], [2, 3, 1]),
                          len(hits_to(climbing(3), [1, 2, 3], [3, 2, 1])),
                          can_reach(first_in(2), [1, 2], [2, 1])], [[1], 3, False])
        self.assertEqual([far_rows(last_used(3)), far_rows(climbing(3)),
                          is_way(climbing(3), [1, 2, 3], [2, 3, 1], [1, 1])], [[1, 2, 3], [1, 2, 2, 1], True])

    def test_by_name(self):
        rule, row, goal = last_used(3), [1, 2, 3], [2, 3, 1]
        self.assertIs(can_reach(goal=goal, row=row, rule=rule), True)
        self.assertEqual(hits_to(goal=goal, row=row, rule=rule), [1])
        self.assertIs(is_way(value=[1], goal=goal, row=row, rule=rule), True)
        self.assertEqual(far_rows(rule=rule), [1, 2, 3])


class SearchTest(CallTest):
    def check(self, rule, row, goals):
        far = by_steps(rule, row)
        for goal in goals:
            steps = far.get(tuple(goal))
            self.assertIs(self.steady(can_reach, rule, row, goal), steps is not None)
            way = self.steady(hits_to, rule, row, goal)
            if steps is None:
                self.assertIsNone(way)
                continue
            self.assertEqual(len(way), steps)
            self.assertTrue(leads(rule, row, goal, way))
            self.assertIs(is_way(rule, row, goal, way), True)
        told = [list(far.values()).count(many) for many in range(max(far.values()) + 1)]
        self.assertEqual(self.steady(far_rows, rule), told)
        self.assertEqual(sum(told), rows_by_hits(rule))

    def test_all_goals(self):
        rng = drawn(80)
        for k, many in [(2, 2), (3, 12), (4, 6)]:
            for rule in some_rules(rng, k, many):
                row = draw_row(rng, k)
                self.check(rule, row, [list(goal) for goal in itertools.permutations(row)])

    def test_five_places(self):
        rng = drawn(81)
        for rule in some_rules(rng, 5, 2):
            row = draw_row(rng, 5)
            self.check(rule, row, [row] + [rng.sample(row, 5) for _ in range(25)])

    def test_six_places(self):
        rng = drawn(82)
        row = draw_row(rng, 6)
        rule = draw_rule(rng, 6)
        self.check(rule, row, [row, row[::-1]] + [rng.sample(row, 6) for _ in range(4)])

    def test_rows_that_are_reached_by_few_rules(self):
        rng = drawn(83)
        for k in range(2, 6):
            for rule in some_rules(rng, k, 1):
                row = draw_row(rng, k)
                reached = [list(one) for one in by_steps(rule, row)]
                self.check(rule, row, rng.sample(reached, min(len(reached), 12)))

    def test_from_a_row_to_itself(self):
        rng = drawn(84)
        for k in range(2, 7):
            for rule in some_rules(rng, k, 1):
                row = draw_row(rng, k)
                self.assertIs(can_reach(rule, row, list(row)), True)
                self.assertEqual(self.steady(hits_to, rule, row, list(row)), [])
                self.assertIs(is_way(rule, row, list(row), []), True)
                self.assertEqual(far_rows(rule)[0], 1)


class IsWayTest(CallTest):
    def check(self, rule, row, goal, value):
        self.assertIs(self.steady(is_way, rule, row, goal, value), leads(rule, row, goal, value))

    def test_ways_that_are_changed(self):
        rng = drawn(85)
        judged = []
        for _ in range(60):
            k = rng.randint(2, 6)
            rule, row = rng.choice(some_rules(rng, k, 6)), draw_row(rng, k)
            way = [rng.choice(row) for _ in range(rng.randint(0, 9))]
            goal = ran(rule, row, way).row()
            self.assertIs(is_way(rule, row, goal, way), True)
            for at in range(len(way)):
                for other in [way[:at] + way[at + 1:], way[:at] + [way[at]] + way[at:],
                              way[:at] + [rng.choice(row)] + way[at + 1:]]:
                    self.check(rule, row, goal, other)
                    judged.append(is_way(rule, row, goal, other))
                self.assertIs(is_way(rule, row, goal, way[:at] + [4] + way[at:]), 4 in row and
                              leads(rule, row, goal, way[:at] + [4] + way[at:]))
        self.assertIn(True, judged)
        self.assertIn(False, judged)

    def test_misses_that_lead_to_the_goal(self):
        row, goal = [1, 2, 3], [2, 3, 1]
        self.assertEqual(row_behind(first_in(3), row, [4, 2, 3, 1]), [3, 4, 1])
        self.assertEqual(row_behind(first_in(3), row, [4, 5, 6, 2, 3, 1]), goal)
        self.assertIs(is_way(first_in(3), row, goal, [4, 5, 6, 2, 3, 1]), False)
        self.assertIs(is_way(last_used(3), row, goal, [4, 2, 3, 1]), False)
        self.assertEqual(row_behind(last_used(3), row, [4, 2, 3, 1]), goal)
        self.assertEqual(outcomes_of(last_used(3), row, [4, 2, 3, 1]), [False, True, True, False])

    def test_long_ways(self):
        self.assertIs(is_way(last_used(2), [1, 2], [2, 1], [1, 2] * 300 + [1]), True)
        self.assertIs(is_way(last_used(2), [1, 2], [2, 1], [1, 2] * 300), False)

    def test_other_values(self):
        for value in WRONG_KINDS + [value for value, _ in NO_STREAM] + [(1,), "1", [True], [[1]], [1, None], [-1]]:
            with self.subTest(value=value):
                self.assertIs(self.steady(is_way, last_used(2), [1, 2], [2, 1], value), False)
                told = value == [] and isinstance(value, list)
                self.assertIs(self.steady(is_way, last_used(2), [1, 2], [1, 2], value), told)

    def test_true_is_no_block(self):
        self.assertIs(is_way(last_used(2), [1, 2], [2, 1], [1]), True)
        self.assertIs(is_way(last_used(2), [0, 1], [1, 0], [False]), False)


def inversions(row, goal):
    """How many pairs of blocks stand in unlike sequence."""
    return sum((row.index(a) < row.index(b)) != (goal.index(a) < goal.index(b))
               for a, b in itertools.combinations(row, 2))


def beginning(row, goal):
    """How long the longest beginning of the goal is that stands in this sequence in the row."""
    many = 0
    for block in row:
        if block == goal[many]:
            many += 1
    return many


class ClosedFormsTest(CallTest):
    def test_last_used_and_climbing(self):
        rng = drawn(86)
        for k in range(2, 7):
            for _ in range(12):
                row = draw_row(rng, k)
                goal = rng.sample(row, k)
                self.assertEqual(len(hits_to(last_used(k), row, goal)), k - beginning(row, goal))
                self.assertEqual(len(hits_to(climbing(k), row, goal)), inversions(row, goal))

    def test_numbers_of_rows(self):
        for k in range(2, 7):
            self.assertEqual(far_rows(first_in(k)), [1])
            counts = [0] * (k * (k - 1) // 2 + 1)
            for goal in itertools.permutations(range(k)):
                counts[inversions(list(range(k)), list(goal))] += 1
            self.assertEqual(far_rows(climbing(k)), counts)
            lengths = [k - beginning(list(range(k)), list(goal)) for goal in itertools.permutations(range(k))]
            self.assertEqual(far_rows(last_used(k)), [lengths.count(many) for many in range(k)])
        self.assertEqual(sum(far_rows(tree(4))), 8)

    def test_twelve_blocks(self):
        rng = drawn(87)
        begun = time.process_time()
        for k in range(7, 13):
            for _ in range(3):
                row = draw_row(rng, k)
                goal = rng.sample(row, k)
                self.assertIs(can_reach(last_used(k), row, goal), True)
                self.assertIs(can_reach(climbing(k), row, goal), True)
                self.assertIs(can_reach(first_in(k), row, goal), row == goal)
                self.assertIs(can_reach(first_in(k), row, list(row)), True)
        self.assertLess(time.process_time() - begun, 20)

    def test_first_in_reaches_the_row_alone(self):
        row = [4, 0, 10 ** 9]
        for goal in itertools.permutations(row):
            self.assertIs(can_reach(first_in(3), row, list(goal)), list(goal) == row)
            self.assertEqual(hits_to(first_in(3), row, list(goal)), [] if list(goal) == row else None)

    def test_tree_of_eight(self):
        rng = drawn(88)
        row = draw_row(rng, 8)
        reached = by_steps(tree(8), row)
        self.assertEqual(len(reached), 2 ** 7)
        for goal in reached:
            self.assertIs(can_reach(tree(8), row, list(goal)), True)
        for goal in reached:
            i, j = rng.sample(range(8), 2)
            other = list(goal)
            other[i], other[j] = other[j], other[i]
            self.assertIs(can_reach(tree(8), row, other), tuple(other) in reached)
        for _ in range(100):
            goal = rng.sample(row, 8)
            self.assertIs(can_reach(tree(8), row, goal), tuple(goal) in reached)


class ErrorsTest(CallTest):
    def test_no_rule(self):
        for value, index in NO_RULE:
            with self.subTest(value=value):
                for row, goal in [([5, 6], [6, 5]), (None, None), ([5, 5], [6, 6])]:
                    self.fails(InvalidRule, {"index": index}, can_reach, value, row, goal)
                    self.fails(InvalidRule, {"index": index}, hits_to, value, row, goal)
                    self.fails(InvalidRule, {"index": index}, is_way, value, row, goal, [5])
                self.fails(InvalidRule, {"index": index}, far_rows, value)

    def test_no_row(self):
        for value, index in NO_ROW:
            with self.subTest(value=value):
                for goal in ([5, 6], None, [], [6, 6]):
                    self.fails(InvalidRow, {"index": index}, can_reach, first_in(2), value, goal)
                    self.fails(InvalidRow, {"index": index}, hits_to, last_used(2), value, goal)
                    self.fails(InvalidRow, {"index": index}, is_way, first_in(2), value, goal, None)

    def test_no_goal(self):
        for value, index in NO_GOAL:
            with self.subTest(value=value):
                for rule in (first_in(2), last_used(2)):
                    self.fails(InvalidRow, {"index": index}, can_reach, rule, [5, 6], value)
                    self.fails(InvalidRow, {"index": index}, hits_to, rule, [5, 6], value)
                    for way in ([5], [], None, [5, -1]):
                        self.fails(InvalidRow, {"index": index}, is_way, rule, [5, 6], value, way)

    def test_booleans_that_are_equal_to_blocks(self):
        self.fails(InvalidRow, {"index": 0}, can_reach, first_in(2), [1, 0], [True, 0])
        self.fails(InvalidRow, {"index": 1}, hits_to, first_in(2), [1, 0], [1, False])
        self.fails(InvalidRow, {"index": 1}, is_way, first_in(2), [1, 0], [0, True], [])

    def test_each_place_of_a_goal(self):
        for k in range(2, 13):
            row = list(range(10, 10 + k))
            for place in range(k):
                for wrong in (9, 10 + k, -1, True, None, "10", [10]):
                    goal = row[::-1]
                    goal[place] = wrong
                    self.fails(InvalidRow, {"index": place}, can_reach, last_used(k), row, goal)
                for before in {0, place - 1} if place else ():
                    goal = list(row)
                    goal[place] = row[before]
                    self.fails(InvalidRow, {"index": place}, can_reach, last_used(k), row, goal)
            for many in (0, k - 1, k + 1):
                self.fails(InvalidRow, {"index": None}, can_reach, last_used(k), row, list(range(10, 10 + many)))


if __name__ == "__main__":
    unittest.main()
