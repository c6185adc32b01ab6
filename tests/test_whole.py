"""The whole program: [1] to [3], and values that go from module to module."""

import unittest

from goesnext.cache import Cache, CountingCache, CountingKeepingCache, KeepingCache
from goesnext.errors import TooMany
from goesnext.groups import group_order, is_member, members, rows_by_hits, states_needed, word_for
from goesnext.hidden import Hidden, read_rule
from goesnext.keeping import is_lost_way, is_way_out, keeps, life, lost_way, way_out
from goesnext.parting import (fitting, is_parting, parting_stream, shortest_parting, tell_apart,
                              tells_apart)
from goesnext.permutations import after, cycles, inverse, is_permutation, power, turns
from goesnext.reach import can_reach, far_rows, hits_to, is_way
from goesnext.records import first_rows, is_possible, next_one, rows_left
from goesnext.rounds import hits_in, period_of, row_after
from goesnext.rules import climbing, first_in, is_rule, last_used, raised, tree
from goesnext.runs import gone, lines_behind, outcomes_of, row_behind
from goesnext.tables import (is_table, least_table, marks_table, needed_states, order_at, parting_calls, rule_of,
                             shows_not, table_for, tree_table, why_not)
from goesnext.texts import format_outcomes, format_rule, format_table, parse_outcomes, parse_rule, parse_table
from goesnext.unknown import forgets, forgetting, learns, shows_forgetting, sure
from goesnext.wide import is_wide, normal, numbers, stuck_places, wide_alike, wide_of, wide_outcomes
from model import CallTest, draw_permutation, draw_row, draw_rule, drawn


def some_rules(rng, k):
    named = [first_in(k), last_used(k), climbing(k)] + ([tree(k)] if k in (2, 4, 8) else [])
    return named + [raised([rng.randint(i, k - 1) for i in range(k)]), draw_rule(rng, k)]


def draw_stream(rng, row, length):
    blocks = row + rng.sample(range(500, 600), 5)
    return [rng.choice(blocks) for _ in range(length)]


class SameRuleTest(CallTest):
    def test_from_module_to_module(self):
        rng = drawn(170)
        for k in range(2, 13):
            for rule in some_rules(rng, k):
                self.assertTrue(is_rule(rule))
                self.assertEqual(parse_rule(format_rule(rule)), rule)
                self.assertEqual(read_rule(Hidden(rule)), rule)
                wide = wide_of(rule, draw_permutation(rng, k))
                self.assertTrue(is_wide(wide))
                self.assertEqual([normal(wide), stuck_places(wide)], [rule, []])
                self.assertEqual(wide_of(rule, numbers(wide)), wide)
                self.assertTrue(wide_alike(wide, wide_of(rule, draw_permutation(rng, k))))
                self.assertEqual(read_rule(Hidden(parse_rule(format_rule(normal(wide))))), rule)
                self.assertIsNone(parting_stream(rule, normal(wide), draw_row(rng, k)))

    def test_tables(self):
        rng = drawn(171)
        for k in range(2, 9):
            for rule in some_rules(rng, k):
                many = states_needed(rule)
                if many > 200:
                    self.fails(TooMany, {"limit": 200}, table_for, rule)
                    continue
                table = table_for(rule)
                self.assertTrue(is_table(table))
                self.assertEqual([len(table), rule_of(table, 0), needed_states(table, 0)], [many, rule, many])
                self.assertIsNone(why_not(table, 0))
                self.assertEqual(parse_table(format_table(table)), table)
                self.assertEqual(least_table(table, 0), table)
                state = rng.randrange(many)
                self.assertEqual(rule_of(least_table(table, state), 0), rule)
                self.assertEqual(order_at(least_table(table, state), 0), order_at(table, state))
                self.assertEqual(read_rule(Hidden(rule_of(parse_table(format_table(table)), state))), rule)

    def test_wide_rules_run_alike(self):
        rng = drawn(172)
        for k in range(2, 13):
            for rule in some_rules(rng, k):
                wide = wide_of(rule, draw_permutation(rng, k))
                row = draw_row(rng, k)
                placed = [row[number] for number in numbers(wide)]
                stream = draw_stream(rng, row, 60)
                self.assertEqual(wide_outcomes(wide, placed, stream), outcomes_of(rule, row, stream))

    def test_tables_run_alike(self):
        rng = drawn(173)
        for table, rule in [(tree_table(4), tree(4)), (tree_table(8), tree(8)), (marks_table(2), last_used(2)),
                            (table_for(climbing(3)), climbing(3))]:
            lines = draw_row(rng, len(rule))
            stream = draw_stream(rng, lines, 80)
            row = [lines[line] for line in order_at(table, 0)]
            now, state = list(lines), 0
            for block in stream:
                hits, out, miss = table[state]
                state = hits[now.index(block)] if block in now else miss
                now = now if block in now else [block if line == out else old for line, old in enumerate(now)]
            self.assertEqual([now[line] for line in order_at(table, state)], row_behind(rule, row, stream))


class TakenByOthersTest(CallTest):
    def test_parting_streams(self):
        rng = drawn(174)
        for k in range(2, 13):
            rules = some_rules(rng, k)
            row = draw_row(rng, k)
            stream = tell_apart(rules, row)
            self.assertTrue(tells_apart(rules, row, stream))
            for rule in rules:
                outcomes = outcomes_of(rule, row, stream)
                alike = [index for index, other in enumerate(rules) if other == rule]
                self.assertEqual(fitting(rules, row, stream, outcomes), alike)
                self.assertEqual(parse_outcomes(format_outcomes(outcomes)), outcomes)
                told = parting_stream(rules[0], rule, row)
                self.assertIs(told is None, rule == rules[0])
                self.assertIs(is_parting(rules[0], rule, row, told), told is not None)
                if k <= 4 and told is not None:
                    self.assertTrue(is_parting(rules[0], rule, row, shortest_parting(rules[0], rule, row)))

    def test_ways(self):
        rng = drawn(175)
        for k in range(2, 7):
            for rule in some_rules(rng, k):
                row = draw_row(rng, k)
                goal = row_behind(rule, row, [rng.choice(row) for _ in range(8)])
                way = hits_to(rule, row, goal)
                self.assertTrue(is_way(rule, row, goal, way))
                self.assertTrue(can_reach(rule, goal, row))
                self.assertEqual([row_behind(rule, row, way), gone(rule, row, way)], [goal, []])
                self.assertEqual(lines_behind(rule, row, way), row)
                self.assertEqual(sum(far_rows(rule)), rows_by_hits(rule))
                self.assertLess(len(way), len(far_rows(rule)))
                moves = [goal.index(block) for block in row]
                word = word_for(rule, moves)
                self.assertEqual(len(word), len(way))
                made = list(range(k))
                for index in word:
                    made = after(made, rule[index])
                self.assertEqual([made, is_member(rule, moves)], [moves, True])

    def test_what_shows_something(self):
        rng = drawn(176)
        for k in range(2, 13):
            for rule in some_rules(rng, k):
                self.assertTrue(shows_forgetting(rule, forgetting(rule)))
                self.assertEqual(len(forgetting(rule)) + 1, forgets(rule))
                for place in range(k):
                    self.assertTrue(is_way_out(rule, place, way_out(rule, place)))
                    self.assertEqual(len(way_out(rule, place)), life(rule, place))
                self.assertIsNone(lost_way(rule, keeps(rule)))
                self.assertTrue(is_lost_way(rule, keeps(rule) + 1, lost_way(rule, keeps(rule) + 1)))
        for k in range(3, 7):
            reason = why_not(marks_table(k), 0)
            self.assertTrue(shows_not(marks_table(k), 0, reason))
            self.assertIsNone(needed_states(marks_table(k), 0))
        calls = parting_calls(tree_table(4), 0, marks_table(4), 0)
        self.assertIsInstance(calls, list)

    def test_permutations_of_rules(self):
        rng = drawn(177)
        for k in (2, 3, 4):
            for rule in some_rules(rng, k):
                found = members(rule)
                self.assertEqual(len(found), group_order(rule))
                for one in found:
                    self.assertTrue(is_permutation(one) and is_member(rule, one) and is_member(rule, inverse(one)))
                    self.assertEqual(power(one, turns(one)), list(range(k)))
                    self.assertEqual(sum(len(cycle) for cycle in cycles(one)), k)

    def test_a_block_stays_as_long_as_it_is_kept(self):
        rng = drawn(178)
        for k in range(2, 9):
            for rule in some_rules(rng, k):
                gap = keeps(rule)
                row = draw_row(rng, k)
                stream = [700]
                for _ in range(60):
                    now = row_behind(rule, row, stream)
                    others = [block for block in now if block != 700] + [800 + len(stream)]
                    if rng.randrange(gap + 1) == 0 or 700 not in stream[-gap:]:
                        others = [700]
                    stream.append(rng.choice(others))
                outcomes = outcomes_of(rule, row, stream)
                self.assertTrue(all(hit for hit, block in zip(outcomes[1:], stream[1:]) if block == 700))


class UnknownRowsTest(CallTest):
    def test_records_of_real_runs(self):
        rng = drawn(179)
        for k in range(2, 7):
            for rule in some_rules(rng, k):
                row = draw_row(rng, k)
                stream = [rng.choice(row[:2] + [600, 601, 602]) for _ in range(10)]
                outcomes = outcomes_of(rule, row, stream)
                behind = row_behind(rule, row, stream)
                self.assertTrue(is_possible(rule, stream, outcomes))
                known = [block if block in stream else None for block in behind]
                self.assertIn(known, rows_left(rule, stream, outcomes))
                first = [block if block in stream and outcomes[stream.index(block)] else None for block in row]
                self.assertIn(first, first_rows(rule, stream, outcomes))
                for block in (row[0], 600, 603):
                    told = "hit" if block in behind else "miss"
                    self.assertIn(next_one(rule, stream, outcomes, block), ("open", told))
                for told, hit in zip(sure(rule, stream), outcomes):
                    self.assertIn(told, ("open", "hit" if hit else "miss"))

    def test_what_is_learned(self):
        rng = drawn(180)
        for k in range(2, 5):
            for rule in some_rules(rng, k):
                many = learns(rule)
                stream = list(range(many))
                for _ in range(20):
                    row = rng.sample(list(range(many + 2)) + [900, 901, 902, 903], k)
                    self.assertEqual(row_behind(rule, row, stream), stream[-k:])
                    behind = row_behind(rule, row, stream[:forgets(rule)])
                    self.assertFalse([block for block in behind if block not in stream[:forgets(rule)]])
                self.assertEqual(sure(rule, stream + stream[-k:])[-k:][0], "hit")

    def test_hidden_caches_have_strangers_at_first(self):
        rng = drawn(181)
        for k in range(2, 13):
            for rule in some_rules(rng, k):
                stream = [rng.randrange(k + 3) for _ in range(50)]
                outcomes = Hidden(rule).ask(stream)
                self.assertEqual(outcomes, outcomes_of(rule, list(range(100, 100 + k)), stream))
                self.assertEqual(parse_outcomes(format_outcomes(outcomes)), outcomes)
                self.assertEqual(first_rows(rule, stream, outcomes), [[None] * k])


class RoundsAndSetsTest(CallTest):
    def test_rounds_are_streams_written_again(self):
        rng = drawn(182)
        for k in range(2, 6):
            for rule in some_rules(rng, k):
                row = draw_row(rng, k)
                stream = draw_stream(rng, row, rng.randint(0, 9))
                first, length = period_of(rule, row, stream)
                again = row_behind(rule, row, stream * (first + length))
                self.assertEqual(row_behind(rule, row, stream * first), again)
                for times in (0, 1, 2, 7, 30):
                    self.assertEqual(hits_in(rule, row, stream, times), sum(outcomes_of(rule, row, stream * times)))
                    self.assertEqual(row_after(rule, row, stream, times), row_behind(rule, row, stream * times))
                far = row_after(rule, row, stream, 10 ** 18)
                self.assertEqual(row_after(rule, far, stream, length), far)

    def test_sets_are_runs(self):
        rng = drawn(183)
        for many in range(1, 17):
            for rule in some_rules(rng, rng.randint(2, 6)):
                k = len(rule)
                rows = [[at + many * one for one in rng.sample(range(k + 2), k)] for at in range(many)]
                stream = [rng.randrange(many * (k + 3)) for _ in range(40)]
                cache = CountingCache(rule, rows)
                outcomes = [cache.access(block) for block in stream]
                parts = [[block for block in stream if block % many == at] for at in range(many)]
                self.assertEqual(cache.rows, [row_behind(rule, row, part) for row, part in zip(rows, parts)])
                for at, part in enumerate(parts):
                    told = outcomes_of(rule, rows[at], part)
                    self.assertEqual([hit for hit, block in zip(outcomes, stream) if block % many == at], told)
                    self.assertEqual(cache.by_set[at], (sum(told), len(told) - sum(told)))
                self.assertEqual(Cache(rule, rows).tried(*stream), outcomes)
                self.assertEqual(Cache(rule, cache.rows).rows, cache.rows)

    def test_caches_of_rules_that_were_read(self):
        rng = drawn(184)
        for kind in (KeepingCache, CountingKeepingCache):
            rule = read_rule(Hidden(tree(4)))
            one = kind(rule, [[1, 2, 3, 4]], kept=[])
            other = kind(parse_rule(format_rule(tree(4))), [[1, 2, 3, 4]], kept=one.kept)
            for block in [rng.randrange(8) for _ in range(40)]:
                self.assertEqual(one.access(block), other.access(block))
            self.assertTrue(one == other)
            again = kind(rule, one.rows, kept=one.rows[0][:1])
            self.assertEqual(again.kept, one.rows[0][:1])


if __name__ == "__main__":
    unittest.main()
