"""Tables of states: [2], [3], [10] and the interface of goesnext.tables, but for the named tables."""

import copy
import itertools
import time
import unittest

from goesnext.errors import InvalidNumber, InvalidTable, OtherSize
from goesnext.rules import climbing, first_in, last_used, tree
from goesnext.tables import (is_table, least_table, marks_table, needed_states, order_at, parting_calls, rule_of,
                             shows_not, table_for, tree_table, why_not)
from model import WRONG_KINDS, CallTest, draw_rule, drawn
from table_model import (calls_of, changed, coming, doubled, draw_small_rule, draw_table, lacks, lines_of,
                         numbered_as_they_come_up, order, own_rule, parted_by, reasons, step, table_of, turning)

GOOD = ([0, 0], 0, 0)
NO_TABLE = [(value, None) for value in WRONG_KINDS if not isinstance(value, list)] + [
    ([], None), ((GOOD,), None), ({"0": GOOD}, None), (GOOD, None), ("table", None),
    ([[]], 0), ([None], 0), ([0], 0), ([GOOD, None], 1), ([[[0, 0], 0, 0]], 0), ([([0, 0], 0)], 0), ([()], 0),
    ([([0, 0], 0, 0, 0)], 0), ([((0, 0), 0, 0)], 0), ([(None, 0, 0)], 0), ([({}, 0, 0)], 0), ([("00", 0, 0)], 0),
    ([([0], 0, 0)], 0), ([([], 0, 0)], 0), ([([0] * 13, 0, 0)], 0), ([([0, 1], 0, 0)], 0), ([([1, 0], 0, 0)], 0),
    ([([-1, 0], 0, 0)], 0), ([([0, 0], 2, 0)], 0), ([([0, 0], -1, 0)], 0), ([([0, 0], 0, 1)], 0),
    ([([0, 0], 0, -1)], 0), ([([0, 0], False, 0)], 0), ([([0, 0], True, 0)], 0), ([([0, 0], 0, False)], 0),
    ([([0, False], 0, 0)], 0), ([([0, None], 0, 0)], 0), ([([0, 0], None, 0)], 0), ([([0, 0], 0, None)], 0),
    ([([0, 0], "0", 0)], 0), ([([0, 0], 0, "0")], 0), ([([0, "0"], 0, 0)], 0), ([([0, [0]], 0, 0)], 0),
    ([([0, 0], [0], 0)], 0), ([([0, 0], 0, [0])], 0), ([GOOD, ([0, 0, 0], 0, 0)], 1), ([([0, 0, 0], 0, 0), GOOD], 1),
    ([GOOD, GOOD, ([0, 0, 0], 0, 0), None], 2), ([GOOD, ([0, 2], 0, 0)], 1), ([([0, 2], 0, 0), GOOD], 0),
    ([GOOD, ([0, 1], 0, 2)], 1), ([GOOD, ([0, 1], 2, 0)], 1), ([GOOD, ([0, 1], 0, 1), ([2, True], 0, 0)], 2),
    ([None, GOOD], 0), ([([0] * 13, 0, 0), ([0] * 13, 0, 0)], 0), ([GOOD] * 199 + [([0, 200], 0, 0)], 199),
    ([GOOD] * 250 + [([0, 0], 0, 251)], 250), ([([0, 0], 0, 10 ** 20)], 0), ([([0, 0], 10 ** 20, 0)], 0),
]
NO_STATE = [-1, 2, 3, 10 ** 20, True, False, None, "0", "", [], [0], (), (0,), {}, {"0": 0}]
PAIR = [([1, 0], 0, 1), ([1, 0], 1, 0)]


def some_tables(seed):
    """Tables of two to four lines of all kinds, each with a state."""
    rng = drawn(seed)
    for k in (2, 3, 4):
        for _ in range(25):
            table = draw_table(rng, k, rng.randint(1, 6))
            yield table, rng.randrange(len(table))
        for _ in range(20):
            table = turning(rng, k, rng.randint(1, 2))
            yield table, rng.randrange(len(table))
            table = changed(rng, table)
            yield table, rng.randrange(len(table))
        for _ in range(20):
            table, state = table_of(draw_rule(rng, k))
            table, state = doubled(rng, table, state, len(table) + rng.randrange(4))
            yield table, state
            yield changed(rng, table), state


def ringed(many):
    """A table that counts misses: only the last of its states sends another line."""
    return [([at, 0], 1 if at == many - 1 else 0, (at + 1) % many) for at in range(many)]


class ExamplesTest(CallTest):
    def test_examples(self):
        self.assertEqual(
            [tree_table(2), rule_of(tree_table(4), 0) == tree(4), needed_states(tree_table(4), 0),
             rule_of(marks_table(2), 0) == last_used(2)], [[([1, 0], 0, 1), ([1, 0], 1, 0)], True, 8, True])
        self.assertEqual(
            [rule_of(marks_table(3), 0), why_not(marks_table(3), 0)[0],
             parting_calls(table_for(first_in(2)), 0, tree_table(2), 0)], [None, 'order', [0]])

    def test_by_name(self):
        self.assertEqual(
            [is_table(value=PAIR), order_at(state=1, table=PAIR), rule_of(state=0, table=PAIR),
             why_not(state=0, table=PAIR), shows_not(value=None, state=0, table=PAIR),
             needed_states(state=0, table=PAIR), parting_calls(second=1, other=PAIR, first=0, one=PAIR),
             least_table(state=0, table=PAIR)], [True, [1, 0], last_used(2), None, False, 2, [], PAIR])


class IsTableTest(CallTest):
    def test_tables(self):
        rng = drawn(80)
        for k in range(2, 13):
            for many in (1, 2, 5, 200):
                self.assertIs(self.steady(is_table, draw_table(rng, k, many)), True)

    def test_more_than_two_hundred(self):
        rng = drawn(81)
        table = draw_table(rng, 2, 300)
        self.assertIs(is_table(table), True)
        self.assertEqual(order_at(table, 299), order(table, 299))
        many, state = doubled(rng, *table_of(first_in(3)), 250)
        self.assertEqual([rule_of(many, state), needed_states(many, state)], [first_in(3), 3])
        self.assertEqual(least_table(many, state), table_for(first_in(3)))

    def test_other_values(self):
        for value, _ in NO_TABLE:
            with self.subTest(value=value):
                self.assertIs(self.steady(is_table, value), False)
        for value in WRONG_KINDS:
            self.assertIs(is_table(value), False)

    def test_one_item_wrong(self):
        rng = drawn(82)
        for k in (2, 3, 7, 12):
            many = rng.randint(1, 5)
            for at in range(many):
                table = draw_table(rng, k, many)
                hits, out, miss = table[at]
                others = [[hits, out, miss], (hits, out), (hits, out, miss, 0), (hits, k, miss), (hits, -1, miss),
                          (hits, out, many), (hits, out, -1), (tuple(hits), out, miss), (hits, bool(out), miss),
                          (hits, out, bool(miss)), (hits, None, miss), (hits, out, None), None]
                if many > 1:
                    others += [(hits + [0], out, miss)] if k < 12 else [(hits[:-1], min(out, k - 2), miss)]
                for line in range(k):
                    for wrong in (many, -1, None, True, "0", [0]):
                        others.append(([*hits[:line], wrong, *hits[line + 1:]], out, miss))
                for wrong in others:
                    value = [*table[:at], wrong, *table[at + 1:]]
                    with self.subTest(value=value):
                        self.assertIs(is_table(value), False)
                        # If the first state has more lines, the second one is the first that is unlike it.
                        more = at == 0 and isinstance(wrong, tuple) and len(wrong[0]) != k
                        self.fails(InvalidTable, {"state": 1 if more else at}, order_at, value, 0)


class RuleOfTest(CallTest):
    def check(self, table, state):
        told = reasons(table, state)
        rule = self.steady(rule_of, table, state)
        reason = self.steady(why_not, table, state)
        self.assertEqual(rule, own_rule(table, state))
        self.assertEqual(rule is None, reason is not None)
        self.assertEqual(self.steady(order_at, table, state), order(table, state))
        needed = self.steady(needed_states, table, state)
        if rule is None:
            self.assertIsNone(needed)
            self.assertIs(type(reason), tuple)
            self.assertIn(reason, told)
            self.assertEqual(reason[0], "order" if any(one[0] == "order" for one in told) else "moves")
            self.assertIs(shows_not(table, state, reason), True)
        else:
            self.assertEqual(needed, len({tuple(order(table, here)) for here in coming(table, state)}))
        return reason

    def test_drawn_tables(self):
        met = [self.check(table, state) for table, state in some_tables(83)]
        kinds = [None if one is None else one[0] for one in met]
        for kind in (None, "order", "moves"):
            self.assertGreater(kinds.count(kind), 20)

    def test_rules_with_states_twice(self):
        rng = drawn(84)
        for k in range(2, 13):
            for rule in [first_in(k), draw_small_rule(rng, k), draw_small_rule(rng, k)]:
                table, state = table_of(rule)
                many, state = doubled(rng, table, state, len(table) + rng.randrange(20))
                # The rule of a table is that of its orders, whatever line each place has at first.
                self.assertEqual(rule_of(many, state), rule)
                self.assertEqual(needed_states(many, state), len(table))
                self.check(many, state)
                self.check(changed(rng, many), state)

    def test_only_states_that_come_up_count(self):
        rng = drawn(85)
        for k in (2, 3):
            table, state = table_of(first_in(k))
            for _ in range(20):
                behind = draw_table(rng, k, len(table) + 2)[-2:]
                self.assertEqual(rule_of(table + behind, state), first_in(k))
                self.check(table + behind, len(table))

    def test_great_tables(self):
        rng = drawn(86)
        start = time.perf_counter()
        for k in (2, 3, 6, 12):
            table, state = table_of(first_in(k))
            many, state = doubled(rng, table, state, 200)
            self.assertEqual([rule_of(many, state), needed_states(many, state)], [first_in(k), k])
            self.assertEqual(least_table(many, state), table_for(first_in(k)))
            other = changed(rng, many)
            self.assertEqual(rule_of(other, state) is None, why_not(other, state) is not None)
            self.assertIn(why_not(draw_table(rng, k, 200), 7)[0], ("order", "moves"))
        self.assertLess(time.perf_counter() - start, 30)


class ShowsNotTest(CallTest):
    def every_tuple(self, table):
        states, places = range(-1, len(table) + 1), range(-1, lines_of(table) + 1)
        return [("order", one) for one in states] + [("moves", *told) for told in
                                                     itertools.product(states, states, places)]

    def test_all_tuples(self):
        rng = drawn(87)
        cases = [(draw_table(rng, k, rng.randint(1, 5)), 0) for k in (2, 3) for _ in range(12)]
        for k in (2, 3):
            for _ in range(12):
                table = turning(rng, k, 2)
                cases += [(table, 0), (changed(rng, table), rng.randrange(len(table)))]
                # One state that lacks a line beside those of the rings.
                cases.append((table[:-1] + [(table[-1][0], table[-2][1], table[-1][2])], 0))
        both = 0
        for table, state in cases:
            told = reasons(table, state)
            both += len({one[0] for one in told}) == 2
            for value in self.every_tuple(table):
                self.assertIs(shows_not(table, state, value), value in told)
        # Tables with a state whose order lacks a line, and with unlike moves between others.
        self.assertGreater(both, 5)

    def test_moves_beside_an_order_that_lacks_a_line(self):
        table = [([0, 1], 0, 1), ([1, 2], 1, 0), ([2, 2], 0, 2)]
        self.assertIs(lacks(table, 2), True)
        self.assertEqual(why_not(table, 0), ("order", 2))
        self.assertIs(shows_not(table, 0, ("order", 2)), True)
        # A hit at place 0 leaves the order in state 0, but leads to a state that lacks a line in state 1.
        self.assertIs(shows_not(table, 0, ("moves", 0, 1, 0)), False)
        self.assertIs(shows_not(table, 0, ("moves", 0, 2, 0)), False)
        self.assertIs(shows_not(table, 0, ("moves", 0, 1, 1)), True)
        self.assertIs(shows_not(table, 0, ("moves", 1, 0, 1)), True)

    def test_other_values(self):
        table = [([0, 0], 0, 1), ([0, 1], 1, 0)]
        self.assertIs(shows_not(table, 0, ("moves", 0, 1, 1)), True)
        self.assertIs(shows_not([([0, 0], 0, 1), ([0, 1], 0, 0)], 0, ("order", 1)), True)
        wrong = WRONG_KINDS + [
            ["moves", 0, 1, 1], ("moves", False, 1, 1), ("moves", 0, True, 1), ("moves", 0, 1, True),
            ("moves", 0, 1, 1, 1), ("moves", 0, 1), ("moves",), ("Moves", 0, 1, 1), ("moves", "0", 1, 1),
            ("moves", 0, None, 1), ("moves", 0, 1, None), ("moves", 0, [1], 1), ("moves", [], {}, []),
            ("order", 0, 1, 1),
            ("moves", 0, 1, [1]), (0, 1, 1, "moves"), ("moves", -2, 1, 1), ("moves", 0, -1, 1), ("moves", 0, 1, -1),
            ("moves", 0, 1, 2), ("moves", 2, 1, 1), ("moves", 0, 2, 1), ("moves", 0, 1, 10 ** 20), (["moves"], 0, 1, 1),
            ("moves", (0,), 1, 1), ("moves", {}, 1, 1), "moves", ("order", 0), ("order", 1), ("moves", (0, 1, 1)),
        ]
        for value in wrong:
            with self.subTest(value=value):
                self.assertIs(self.steady(shows_not, table, 0, value), False)
        lacking = [([0, 0], 0, 1), ([0, 1], 0, 0)]
        for value in [["order", 1], ("order", True), ("order", False), ("order",), ("order", 1, 1), ("order", "1"),
                      ("order", None), ("order", [1]), ("order", {}), ("moves", 1), ("order", (1,)), ("order", 2),
                      ("order", -1), ("order", 10 ** 20), ("orders", 1), (None, 1), (["order"], 1), "order", ()]:
            with self.subTest(value=value):
                self.assertIs(self.steady(shows_not, lacking, 0, value), False)

    def test_states_that_do_not_come_up(self):
        table = [([0, 0], 0, 0), ([1, 1], 0, 0), ([2, 2], 1, 2)]
        self.assertIs(shows_not(table, 0, ("order", 0)), True)
        self.assertIs(shows_not(table, 0, ("order", 1)), False)
        self.assertIs(shows_not(table, 1, ("order", 1)), True)
        self.assertIs(shows_not(table, 1, ("order", 2)), False)
        table = [([0, 1], 0, 1), ([0, 1], 1, 0), ([2, 0], 0, 3), ([3, 3], 1, 2)]
        self.assertIsNone(why_not(table, 0))
        self.assertEqual(rule_of(table, 0), [[0, 1], [1, 0]])
        self.assertIs(shows_not(table, 2, ("moves", 0, 2, 1)), True)
        self.assertIs(shows_not(table, 2, ("moves", 2, 1, 1)), True)
        self.assertIs(shows_not(table, 0, ("moves", 0, 2, 1)), False)
        self.assertIs(shows_not(table, 0, ("moves", 2, 0, 1)), False)


class PartingCallsTest(CallTest):
    def check(self, one, first, other, second):
        calls = self.steady(parting_calls, one, first, other, second)
        many = parted_by(one, first, other, second)
        if many is None:
            self.assertIsNone(calls)
            return
        self.assertIs(type(calls), list)
        self.assertEqual(len(calls), many)
        for call in calls:
            self.assertTrue(call is None or type(call) is int)
            self.assertIn(call, calls_of(one))
            first, second = step(one, first, call), step(other, second, call)
        self.assertNotEqual(one[first][1], other[second][1])

    def test_drawn_tables(self):
        rng = drawn(88)
        cases = list(some_tables(89))
        for one, first in cases:
            other, second = rng.choice([case for case in cases if lines_of(case[0]) == lines_of(one)])
            self.check(one, first, other, second)
            self.check(one, first, one, rng.randrange(len(one)))
            self.check(one, first, changed(rng, one), first)
            self.check(one, first, *doubled(rng, one, first, len(one) + 3))

    def test_at_once_and_never(self):
        self.assertEqual(parting_calls(PAIR, 0, PAIR, 1), [])
        self.assertIsNone(parting_calls(PAIR, 0, PAIR, 0))
        self.assertIsNone(parting_calls(PAIR, 1, [([0, 1], 1, 1), ([0, 1], 0, 0)], 0))

    def test_misses_and_hits(self):
        one, other = ringed(5), [([0, 0], 0, 0)]
        self.assertEqual(parting_calls(one, 0, other, 0), [None] * 4)
        self.assertEqual(parting_calls(one, 4, other, 0), [])
        two = [([1, 0, 0], 0, 0), ([0, 0, 2], 0, 0), ([2, 2, 2], 1, 2)]
        self.assertEqual(parting_calls(two, 0, [([0, 0, 0], 0, 0)], 0), [0, 2])

    def test_great_tables(self):
        rng = drawn(90)
        start = time.perf_counter()
        self.assertEqual(parting_calls(ringed(200), 0, ringed(200), 1), [None] * 198)
        self.assertEqual(parting_calls(ringed(200), 0, ringed(199), 0), [None] * 198)
        self.check(ringed(150), 0, ringed(200), 50)
        for k in (2, 12):
            for _ in range(3):
                one = draw_table(rng, k, 200)
                self.check(one, 3, draw_table(rng, k, 200), 4)
                self.check(one, 3, changed(rng, one), 3)
                self.check(one, 3, [([item for item in hits], 0, miss) for hits, _, miss in one], 3)
            many = doubled(rng, *table_of(first_in(k)), 200)
            self.check(*many, *doubled(rng, *table_of(first_in(k)), 200))
        self.assertLess(time.perf_counter() - start, 60)


class LeastTableTest(CallTest):
    def check(self, table, state):
        least = self.steady(least_table, table, state)
        self.assertIs(is_table(least), True)
        self.assertIsNone(parted_by(least, 0, table, state))
        self.assertIs(numbered_as_they_come_up(least), True)
        for here, there in itertools.combinations(range(len(least)), 2):
            self.assertIsNotNone(parted_by(least, here, least, there))
        self.assertEqual(least_table(least, 0), least)
        return least

    def test_drawn_tables(self):
        fewer = 0
        for table, state in some_tables(91):
            fewer += len(self.check(table, state)) < len(table)
        self.assertGreater(fewer, 50)

    def test_states_that_are_alike(self):
        rng = drawn(92)
        for table, state in some_tables(93):
            least = least_table(table, state)
            self.assertEqual(least_table(*doubled(rng, table, state, len(table) + 5)), least)

    def test_numbers_of_the_states(self):
        table = [([3, 2], 0, 1), ([1, 0], 1, 2), ([2, 2], 0, 3), ([3, 3], 1, 0)]
        self.assertEqual(least_table(table, 0), [([1, 2], 0, 3), ([1, 1], 1, 0), ([2, 2], 0, 1), ([3, 0], 1, 2)])
        self.assertEqual(least_table([([1, 1], 0, 0), ([0, 1], 0, 1)], 1), [([0, 0], 0, 0)])

    def test_great_tables(self):
        rng = drawn(94)
        self.assertEqual(least_table(ringed(200), 0), ringed(200))
        self.assertEqual(least_table([([at, at], 0, (at + 1) % 200) for at in range(200)], 5), [([0, 0], 0, 0)])
        for k in (5, 12):
            rule = draw_small_rule(rng, k)
            table, state = table_of(rule)
            self.assertEqual(least_table(*doubled(rng, table, state, 200)), table_for(rule))


class ErrorsTest(CallTest):
    def test_no_table(self):
        for value, told in NO_TABLE:
            with self.subTest(value=value):
                for call in (order_at, rule_of, why_not, needed_states, least_table):
                    self.fails(InvalidTable, {"state": told}, call, value, 0)
                    self.fails(InvalidTable, {"state": told}, call, value, None)
                self.fails(InvalidTable, {"state": told}, shows_not, value, None, ("order", 0))
                self.fails(InvalidTable, {"state": told}, parting_calls, value, 0, PAIR, 0)
                self.fails(InvalidTable, {"state": told}, parting_calls, value, None, None, None)
                self.fails(InvalidTable, {"state": told}, parting_calls, PAIR, 0, value, 0)
                self.fails(InvalidTable, {"state": told}, parting_calls, [([0, 0, 0], 0, 0)], 0, value, None)

    def test_no_state(self):
        for state in NO_STATE:
            with self.subTest(state=state):
                for call in (order_at, rule_of, why_not, needed_states, least_table):
                    self.fails(InvalidNumber, {}, call, PAIR, state)
                self.fails(InvalidNumber, {}, shows_not, PAIR, state, None)
                self.fails(InvalidNumber, {}, parting_calls, PAIR, state, PAIR, 0)
                self.fails(InvalidNumber, {}, parting_calls, PAIR, state, None, None)
                self.fails(InvalidNumber, {}, parting_calls, PAIR, 0, PAIR, state)
                self.fails(InvalidNumber, {}, parting_calls, [([0, 0, 0], 0, 0)], 0, PAIR, state)

    def test_other_size(self):
        rng = drawn(95)
        for one, other in itertools.permutations(range(2, 13), 2):
            self.fails(OtherSize, {}, parting_calls, draw_table(rng, one, 3), 2, draw_table(rng, other, 2), 1)

    def test_a_value_to_be_judged_raises_nothing(self):
        for table in (PAIR, table_for(climbing(3)), [([0, 0], 0, 0)]):
            for value in WRONG_KINDS + [value for value, _ in NO_TABLE] + NO_STATE:
                for judged in (value, ("order", value), ("moves", value, 0, 0), ("moves", 0, value, 0),
                               ("moves", 0, 0, value), (value, value), (value, value, value, value)):
                    told = isinstance(judged, tuple) and len(judged) == 2 and judged[0] == "order"
                    real = told and type(value) is int and value in range(len(table)) and lacks(table, value)
                    self.assertIs(shows_not(table, 0, judged), real)

    def test_nothing_for_valid_arguments(self):
        for table, state in some_tables(96):
            before = copy.deepcopy(table)
            for call in (order_at, rule_of, why_not, needed_states, least_table):
                call(table, state)
            self.assertEqual(table, before)


if __name__ == "__main__":
    unittest.main()
