"""What is forgotten and what is sure: [2] to [6], [11], [12] and the interface of goesnext.unknown."""

import itertools
import time
import unittest

from goesnext.errors import InvalidRule, InvalidStream, TooMany
from goesnext.rules import climbing, first_in, last_used, raised, tree
from goesnext.unknown import forgets, forgetting, learns, shows_forgetting, sure
from model import NO_RULE, NO_STREAM, WRONG_KINDS, CallTest, draw_rule, drawn, ran
from partly_model import HIGH_SURE, LOW_SURE, partly_known, pools

OLD = "old"


def after_item(rule, row, item, new):
    """The row behind a miss, or a hit at a place with a block of the first row, by a block that is new."""
    if item is None:
        return row[1:] + (new,)
    behind = [None] * len(row)
    for j, block in enumerate(row):
        behind[rule[item][j]] = new if j == item else block
    return tuple(behind)


def all_histories(rule):
    """For n accesses, from none on, the different rows behind all histories; up to where the row is known."""
    levels = [{(OLD,) * len(rule)}]
    while len(levels[-1]) > 1 or any(OLD in row for row in levels[-1]):
        behind = set()
        for row in levels[-1]:
            for item in [None] + [place for place, block in enumerate(row) if block == OLD]:
                behind.add(after_item(rule, row, item, len(levels)))
        levels.append(behind)
    return levels


def own_forgets(levels):
    return max(n for n, level in enumerate(levels) if any(OLD in row for row in level)) + 1


def leaves_one(rule, value):
    """Whether a list of None and numbers is a history that leaves a block."""
    row = (OLD,) * len(rule)
    for item in value:
        if item is not None and (item not in range(len(rule)) or row[item] != OLD):
            return False
        row = after_item(rule, row, item, "new")
    return OLD in row


def slow_rule(rng, k):
    """A rule by [11]: a hit at place h - 1 takes the places 0 to h - 2 to the highest h - 1 places, for each h."""
    rule = [rng.sample(range(k), k)]
    for h in range(2, k + 1):
        high, others = rng.sample(range(k - h + 1, k), h - 1), rng.sample(range(k - h + 1), k - h + 1)
        rule.append(high + others)
    return rule


def some_rules(rng, k, many):
    named = [first_in(k), last_used(k), climbing(k), slow_rule(rng, k)] + ([tree(k)] if k in (2, 4, 8) else [])
    return named + [raised([rng.randint(i, k - 1) for i in range(k)]) for _ in range(3)] + [
        draw_rule(rng, k) for _ in range(many)]


class ExamplesTest(unittest.TestCase):
    def test_examples(self):
        self.assertEqual([forgets(first_in(4)), forgets(last_used(4)), forgets(tree(4)), learns(first_in(3)),
                          learns(last_used(3)), len(forgetting(first_in(4)))], [7, 4, 5, 8, 3, 6])
        self.assertEqual([sure(last_used(2), [1, 2, 3, 1]), shows_forgetting(first_in(2), [0, None]),
                          shows_forgetting(first_in(2), [0, None, None])],
                         [["open", "open", "miss", "miss"], True, False])

    def test_by_name(self):
        rule = last_used(2)
        self.assertEqual([forgets(rule=rule), len(forgetting(rule=rule)), learns(rule=rule)], [2, 1, 2])
        self.assertIs(shows_forgetting(value=[None], rule=rule), True)
        self.assertEqual(sure(stream=[1, 2, 3, 1], rule=rule), ["open", "open", "miss", "miss"])


class HistoriesTest(CallTest):
    def check(self, rule):
        levels = all_histories(rule)
        self.assertEqual(self.steady(forgets, rule), own_forgets(levels))
        self.assertEqual(self.steady(learns, rule), len(levels) - 1)
        way = self.steady(forgetting, rule)
        self.assertEqual(len(way), own_forgets(levels) - 1)
        self.assertTrue(leaves_one(rule, way))
        self.assertTrue(all(item is None or type(item) is int for item in way))
        self.assertIs(shows_forgetting(rule, way), True)

    def test_all_rules_of_two_places(self):
        for rule in itertools.product([[0, 1], [1, 0]], repeat=2):
            self.check(list(rule))

    def test_three_and_four_places(self):
        rng = drawn(90)
        for k, many in [(3, 40), (4, 12)]:
            for rule in some_rules(rng, k, many):
                self.check(rule)

    def test_five_places(self):
        rng = drawn(91)
        self.check(draw_rule(rng, 5))

    def test_against_all_first_rows(self):
        rng = drawn(92)
        for k, many in [(2, 4), (3, 6)]:
            for rule in some_rules(rng, k, many):
                most = 1 + (k - 1) * (k + 2) // 2 + k
                stream = list(range(1, most + 1))
                first = list(itertools.permutations(stream + [100 + place for place in range(k)], k))
                for n, forgot, learned in self.found(rule, first, stream):
                    self.assertIs(n >= forgets(rule), forgot)
                    self.assertIs(n >= learns(rule), learned)

    def found(self, rule, first, stream):
        """For n accesses: whether all blocks that were not accessed have gone, and whether there is one row."""
        told = []
        for n in range(len(stream) + 1):
            rows = [ran(rule, row, stream[:n]).row() for row in first]
            forgot = not any(set(row) - set(stream[:n]) for row in rows)
            told.append((n, forgot, all(row == rows[0] for row in rows)))
        return told


class ClosedFormsTest(CallTest):
    def test_first_in_and_last_used(self):
        for k in range(2, 13):
            self.assertEqual(forgets(first_in(k)), 2 * k - 1)
            self.assertEqual(forgets(last_used(k)), k)
        for k in range(2, 6):
            self.assertEqual(learns(first_in(k)), 3 * k - 1)
            self.assertEqual(learns(last_used(k)), k)

    def test_greatest_number(self):
        rng = drawn(93)
        begun = time.process_time()
        for k in range(2, 10):
            most = 1 + (k - 1) * (k + 2) // 2
            turned_over = [[k - 1 - j for j in range(k)] for _ in range(k)]
            for rule in [slow_rule(rng, k), slow_rule(rng, k), turned_over]:
                self.assertEqual(forgets(rule), most)
                way = forgetting(rule)
                self.assertEqual(len(way), most - 1)
                self.assertTrue(leaves_one(rule, way))
        self.assertLess(time.process_time() - begun, 20)

    def test_bounds(self):
        rng = drawn(94)
        for k in range(2, 10):
            for rule in some_rules(rng, k, 3):
                self.assertIn(forgets(rule), range(k, 2 + (k - 1) * (k + 2) // 2))
                self.assertTrue(leaves_one(rule, forgetting(rule)))

    def test_twelve_places(self):
        rng = drawn(95)
        self.assertEqual(forgets(slow_rule(rng, 12)), 78)
        self.assertEqual(len(self.steady(forgetting, slow_rule(rng, 12))), 77)


class ShowsForgettingTest(CallTest):
    def test_all_short_lists(self):
        rng = drawn(96)
        for k, length in [(2, 5), (3, 4), (4, 3)]:
            for rule in some_rules(rng, k, 2):
                for many in range(length + 1):
                    for items in itertools.product([None, *range(-1, k + 1)], repeat=many):
                        value = list(items)
                        self.assertIs(shows_forgetting(rule, value), leaves_one(rule, value))

    def test_changed_histories(self):
        rng = drawn(97)
        judged = []
        for k in range(2, 10):
            for rule in some_rules(rng, k, 3):
                way = forgetting(rule)
                for at in range(len(way)):
                    for item in [[], [way[at]] * 2, [None], [rng.randrange(k)], [way[at], None]]:
                        value = way[:at] + item + way[at + 1:]
                        judged.append(self.steady(shows_forgetting, rule, value))
                        self.assertIs(judged[-1], leaves_one(rule, value))
                self.assertIs(shows_forgetting(rule, way + [None]), leaves_one(rule, way + [None]))
                self.assertIs(shows_forgetting(rule, way + [None] * 500), False)
        self.assertIn(True, judged)
        self.assertIn(False, judged)

    def test_no_access(self):
        for k in range(2, 13):
            self.assertIs(shows_forgetting(first_in(k), []), True)
            self.assertIs(shows_forgetting(first_in(k), [None] * (k - 1)), True)
            self.assertIs(shows_forgetting(first_in(k), [None] * k), False)

    def test_a_block_is_hit_once_only(self):
        self.assertIs(shows_forgetting(first_in(3), [0, 1]), True)
        self.assertIs(shows_forgetting(first_in(3), [0, 0]), False)
        self.assertIs(shows_forgetting(first_in(3), [None, 2]), False)
        self.assertIs(shows_forgetting(first_in(3), [None, 1]), True)
        self.assertIs(shows_forgetting(first_in(3), [0, 1, 2]), False)

    def test_other_values(self):
        values = [value for value in WRONG_KINDS if value not in ([None],)] + [
            (None,), (), (0, None), [True], [False], [0, True], [None, False], [3], [-1], [0, 3], ["0"], ["None"],
            [[None]], [(0,)], [{}], {"0": None}, "None", [None, "", None], [10 ** 20], [[]]]
        for value in values:
            with self.subTest(value=value):
                self.assertIs(self.steady(shows_forgetting, first_in(3), value), False)


class SureTest(CallTest):
    def check(self, rule, stream):
        """Against the runs from all first rows of the stream's blocks and strangers."""
        told = [set() for _ in stream]
        for row in itertools.permutations(pools(stream, len(rule)), len(rule)):
            for at, hit in enumerate(ran(rule, row, stream).outcomes):
                told[at].add(hit)
        words = ["open" if len(one) == 2 else "hit" if True in one else "miss" for one in told]
        self.assertEqual(self.steady(sure, rule, stream), words)

    def test_all_streams_of_two_places(self):
        for rule in itertools.product([[0, 1], [1, 0]], repeat=2):
            for length in range(6):
                for stream in itertools.product([5, 0, 10 ** 9], repeat=length):
                    self.check(list(rule), list(stream))

    def test_drawn_streams(self):
        rng = drawn(98)
        for k, many in [(2, 60), (3, 40)]:
            for rule in some_rules(rng, k, 2):
                for _ in range(many // 8):
                    blocks = rng.sample([0, 1, 2, 3, 4, 10 ** 9], rng.randint(1, 5))
                    self.check(rule, [rng.choice(blocks) for _ in range(rng.randint(0, 12))])

    def test_long_streams(self):
        rng = drawn(99)
        for k in (2, 3):
            for rule in [first_in(k), last_used(k), draw_rule(rng, k)]:
                self.check(rule, [rng.randrange(k + 1) for _ in range(400)])
        self.assertEqual(sure(first_in(3), [7] * 450), ["open"] + ["hit"] * 449)

    def test_more_places(self):
        rng = drawn(100)
        for k in range(4, 9):
            for rule in some_rules(rng, k, 1):
                for length in (3, 400):
                    stream = [rng.randrange(4) for _ in range(length)]
                    self.against_partly_known(rule, stream)
                self.against_partly_known(rule, list(range(60)) + [58, 40])

    def against_partly_known(self, rule, stream):
        told, most = partly_known(rule, stream)
        if most > 5000:
            self.fails(TooMany, {"limit": 5000}, sure, rule, stream)
        else:
            self.assertEqual(sure(rule, stream), told)

    def test_no_access(self):
        self.assertEqual(self.steady(sure, tree(8), []), [])

    def test_strangers_after_k_new_blocks(self):
        for k in range(2, 13):
            self.assertEqual(sure(last_used(k), list(range(k + 3)) + [0, k + 2]),
                             ["open"] * k + ["miss"] * 4 + ["hit"])


class TooManyTest(CallTest):
    def test_just_within_and_just_beyond(self):
        for rule, stream, most in LOW_SURE:
            told, found = partly_known(rule, stream)
            self.assertEqual(found, most)
            self.assertLessEqual(most, 5000)
            self.assertEqual(self.steady(sure, rule, stream), told)
        for rule, stream, most in HIGH_SURE:
            self.assertEqual(partly_known(rule, stream)[1], most)
            self.assertGreater(most, 5000)
            self.fails(TooMany, {"limit": 5000}, sure, rule, stream)

    def test_later_accesses_do_not_help(self):
        rule, stream, _ = HIGH_SURE[0]
        self.fails(TooMany, {"limit": 5000}, sure, rule, stream + list(range(100, 130)))
        self.assertLessEqual(partly_known(rule, stream[:-1])[1], 5000)
        self.assertEqual(len(sure(rule, stream[:-1])), len(stream) - 1)

    def test_first_in(self):
        self.assertEqual(len(sure(first_in(6), list(range(400)))), 400)
        self.fails(TooMany, {"limit": 5000}, sure, first_in(7), list(range(400)))
        self.fails(TooMany, {"limit": 5000}, sure, first_in(12), list(range(5)))
        self.assertEqual(sure(first_in(12), [1, 2, 1, 2]), ["open", "open", "open", "hit"])


class ErrorsTest(CallTest):
    def test_no_rule(self):
        for value, index in NO_RULE:
            with self.subTest(value=value):
                for call in (forgets, forgetting, learns):
                    self.fails(InvalidRule, {"index": index}, call, value)
                for other in ([], None, [True], [-1], ["x"]):
                    self.fails(InvalidRule, {"index": index}, shows_forgetting, value, other)
                    self.fails(InvalidRule, {"index": index}, sure, value, other)

    def test_no_stream(self):
        for value, index in NO_STREAM:
            with self.subTest(value=value):
                self.fails(InvalidStream, {"index": index}, sure, first_in(2), value)
                self.fails(InvalidStream, {"index": index}, sure, first_in(12), value)

    def test_a_stream_that_is_wrong_behind_too_many(self):
        self.fails(TooMany, {"limit": 5000}, sure, first_in(12), list(range(8)))
        self.fails(InvalidStream, {"index": 8}, sure, first_in(12), list(range(8)) + [-1])
        self.fails(InvalidRule, {"index": 11}, sure, first_in(12)[:11] + [[]], list(range(8)) + [-1])


if __name__ == "__main__":
    unittest.main()
