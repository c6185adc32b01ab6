"""Lives and kept blocks: [2] to [6], [13] and the interface of goesnext.keeping."""

import itertools
import unittest

from goesnext.errors import InvalidNumber, InvalidRule
from goesnext.keeping import is_lost_way, is_way_out, keeps, life, lost_way, way_out
from goesnext.rules import climbing, first_in, last_used, raised, tree
from model import NO_RULE, WRONG_KINDS, CallTest, ModelCache, draw_rule, drawn

NO_WAY = WRONG_KINDS + [
    (None,), (None, None, None), "own", ["own"], [True], [False, None], [[None]], [(0,)], ["0"], ["None"], [{}],
    [10 ** 20], ["own", "own"], ["Own", None], {"own": None}, [None, [], None], [[], None], ["own", [None]],
]


def some_rules(rng, k, many):
    named = [first_in(k), last_used(k), climbing(k)] + ([tree(k)] if k in (2, 4, 8) else [])
    lifted = [raised([rng.randint(i, k - 1) for i in range(k)]) for _ in range(2)]
    turned = [[(j - turn) % k for j in range(k)] for turn in rng.choices(range(k), k=k)]
    return named + lifted + [turned] + [draw_rule(rng, k) for _ in range(many)]


def places_behind(rule, places, own=False):
    """The places that a block can have behind an access to another one; None where it has gone."""
    if own:
        return {rule[place][place] for place in places}
    behind = {place - 1 if place else None for place in places}
    for place in places:
        behind |= {rule[item][place] for item in range(len(rule)) if item != place}
    return behind


def own_life(rule, place):
    many, places = 0, {place}
    while None not in places:
        places = places_behind(rule, places)
        many += 1
    return many


def can_be_lost(rule, gap):
    """Whether a block can go with this gap: from all places that it can have behind an access of its own."""
    begun, edge = set(), {len(rule) - 1}
    while edge:
        begun |= edge
        reached, places = set(edge), edge
        for _ in range(gap):
            places = places_behind(rule, places)
            if None in places:
                return True
            reached |= places
        edge = places_behind(rule, reached, own=True) - begun
    return False


def own_keeps(rule):
    return max(gap for gap in range(len(rule)) if not can_be_lost(rule, gap))


def goes_by(rule, place, value):
    """Whether the block goes in a real row by these accesses, behind the last one and not ahead of it."""
    row = [f"block {at}" for at in range(len(rule))]
    own = row[place]
    cache = ModelCache(rule, row)
    for at, item in enumerate(value):
        if own not in cache.places:
            return False
        if item == "own":
            cache.access(own)
        elif item is None:
            cache.access(f"new {at}")
        elif type(item) is int and 0 <= item < len(rule) and cache.row()[item] != own:
            cache.access(cache.row()[item])
        else:
            return False
    return own not in cache.places


def gaps_of(value):
    """The numbers of other accesses ahead of the first "own", between two of them and behind the last one."""
    gaps = [0]
    for item in value:
        if item == "own":
            gaps.append(0)
        else:
            gaps[-1] += 1
    return gaps


def changed(rng, k, way, items):
    """The list with an item left out, twice, otherwise, or one more."""
    found = [way, [], way + [None], way + way]
    for at in range(len(way)):
        found += [way[:at] + way[at + 1:], way[:at] + [way[at]] * 2 + way[at + 1:],
                  way[:at] + [rng.choice(items)] + way[at + 1:], way[:at] + [rng.choice(items)] + way[at:],
                  way[:at] + [rng.choice([-1, k, True, False, "", "none", [], (None,), {}])] + way[at + 1:]]
    return found


class ExamplesTest(unittest.TestCase):
    def test_examples(self):
        self.assertEqual([life(tree(4), 3), life(last_used(3), 2), keeps(tree(4)), keeps(last_used(3)),
                          keeps(first_in(3)), keeps(climbing(4))], [3, 3, 2, 2, 0, 1])
        self.assertEqual([len(way_out(tree(4), 3)), lost_way(first_in(2), 0),
                          is_lost_way(first_in(2), 1, [None, "own", None]),
                          is_way_out(first_in(2), 1, [0, None, None])], [3, None, True, True])

    def test_by_name(self):
        rule = first_in(2)
        self.assertEqual([life(place=1, rule=rule), way_out(place=0, rule=rule), keeps(rule=rule)], [2, [None], 0])
        self.assertIs(is_way_out(value=[None], place=0, rule=rule), True)
        self.assertIsNone(lost_way(gap=0, rule=rule))
        self.assertIs(is_lost_way(value=[None, None], gap=2, rule=rule), True)


class WayOutTest(CallTest):
    def check(self, rule, place):
        many = own_life(rule, place)
        self.assertEqual(self.steady(life, rule, place), many)
        way = self.steady(way_out, rule, place)
        self.assertEqual(len(way), many)
        self.assertNotIn("own", way)
        self.assertTrue(goes_by(rule, place, way))
        self.assertIs(is_way_out(rule, place, way), True)

    def test_each_place(self):
        rng = drawn(130)
        for k in range(2, 13):
            for rule in some_rules(rng, k, 6):
                for place in range(k):
                    self.check(rule, place)

    def test_changed_ways(self):
        rng = drawn(131)
        judged = []
        for k in range(2, 13):
            for rule in some_rules(rng, k, 2):
                place = rng.randrange(k)
                for value in changed(rng, k, way_out(rule, place), [None, *range(k)]):
                    judged.append(self.steady(is_way_out, rule, place, value))
                    self.assertIs(judged[-1], goes_by(rule, place, value))
        self.assertIn(True, judged)
        self.assertIn(False, judged)

    def test_all_short_lists(self):
        rng = drawn(132)
        for k, length in [(2, 5), (3, 4), (4, 3)]:
            for rule in some_rules(rng, k, 1):
                for many in range(length + 1):
                    for items in itertools.product([None, *range(-1, k + 1)], repeat=many):
                        for place in range(k):
                            told = is_way_out(rule, place, list(items))
                            self.assertIs(told, goes_by(rule, place, list(items)))

    def test_hits_at_its_own_place(self):
        self.assertIs(is_way_out(first_in(3), 1, [0, 2, None, 1, None]), True)
        self.assertIs(is_way_out(first_in(3), 1, [0, 1, None, 2, None]), False)
        self.assertIs(is_way_out(first_in(3), 1, [None, 0, None]), False)
        self.assertIs(is_way_out(first_in(3), 1, ["own", None, None]), False)
        self.assertIs(is_way_out(first_in(3), 1, [None, None, "own"]), False)

    def test_long_lists(self):
        self.assertIs(is_way_out(first_in(3), 0, [1, 2] * 400 + [None]), True)
        self.assertIs(is_way_out(first_in(3), 0, [1, 2] * 400), False)

    def test_other_values(self):
        for k in (2, 3, 12):
            for value in NO_WAY:
                with self.subTest(value=value):
                    self.assertIs(self.steady(is_way_out, last_used(k), k - 1, value), False)


class LostWayTest(CallTest):
    def check(self, rule):
        told = self.steady(keeps, rule)
        self.assertEqual(told, own_keeps(rule))
        for gap in range(told + 1):
            self.assertIsNone(self.steady(lost_way, rule, gap))
        for gap in [told + 1, told + 2, len(rule), 100]:
            way = self.steady(lost_way, rule, gap)
            self.assertTrue(goes_by(rule, len(rule) - 1, way))
            self.assertLessEqual(max(gaps_of(way)), gap)
            for other in range(len(rule) + 2):
                self.assertIs(is_lost_way(rule, other, way), other >= max(gaps_of(way)))

    def test_drawn_rules(self):
        rng = drawn(133)
        for k in range(2, 13):
            for rule in some_rules(rng, k, 8):
                self.check(rule)

    def test_all_rules_of_two_places(self):
        for rule in itertools.product([[0, 1], [1, 0]], repeat=2):
            self.check(list(rule))

    def test_ways_that_need_own_accesses(self):
        # By misses alone the block stays for three accesses; each access of its own takes it further down.
        rule = [[0, 1, 2], [1, 0, 2], [0, 2, 1]]
        self.assertEqual(own_keeps(rule), 0)
        self.assertIs(is_lost_way(rule, 1, ["own", "own", None]), True)
        self.assertEqual(lost_way(rule, 1)[-1], None)
        self.assertIn("own", lost_way(rule, 1))
        self.check(rule)

    def test_changed_ways(self):
        rng = drawn(134)
        judged = []
        for k in range(2, 13):
            for rule in some_rules(rng, k, 3):
                gap = keeps(rule) + 1
                for value in changed(rng, k, lost_way(rule, gap), [None, "own", *range(k)]):
                    told = self.steady(is_lost_way, rule, gap, value)
                    self.assertIs(told, goes_by(rule, k - 1, value) and max(gaps_of(value)) <= gap)
                    self.assertIs(is_lost_way(rule, 100, value), goes_by(rule, k - 1, value))
                    self.assertIs(is_lost_way(rule, gap - 1, value), False)
                    judged.append(told)
        self.assertIn(True, judged)
        self.assertIn(False, judged)

    def test_all_short_lists(self):
        rng = drawn(135)
        for k, length in [(2, 5), (3, 4)]:
            for rule in some_rules(rng, k, 1):
                for many in range(length + 1):
                    for items in itertools.product([None, "own", *range(-1, k + 1)], repeat=many):
                        value = list(items)
                        goes = goes_by(rule, k - 1, value)
                        for gap in range(length + 1):
                            self.assertIs(is_lost_way(rule, gap, value), goes and max(gaps_of(value)) <= gap)

    def test_long_lists(self):
        self.assertIs(is_lost_way(first_in(2), 1, ["own"] * 500 + [None, "own", None]), True)
        self.assertIs(is_lost_way(first_in(2), 1, [None] + ["own"] * 500), False)
        self.assertIs(is_lost_way(first_in(2), 100, [0] * 99 + [None, "own", None]), True)
        self.assertIs(is_lost_way(first_in(2), 100, [0] * 100 + [None, "own", None]), False)

    def test_other_values(self):
        for k in (2, 3, 12):
            for gap in (0, 1, 100):
                for value in NO_WAY:
                    with self.subTest(value=value):
                        self.assertIs(self.steady(is_lost_way, first_in(k), gap, value), False)


class ClosedFormsTest(CallTest):
    def test_named_rules(self):
        for k in range(2, 13):
            for place in range(k):
                for rule in (last_used(k), first_in(k), climbing(k)):
                    self.assertEqual(life(rule, place), place + 1)
            self.assertEqual([keeps(last_used(k)), keeps(first_in(k)), keeps(climbing(k))], [k - 1, 0, 1])

    def test_trees(self):
        for k, levels in [(2, 1), (4, 2), (8, 3)]:
            self.assertEqual([life(tree(k), k - 1), keeps(tree(k))], [levels + 1, levels])

    def test_bounds(self):
        rng = drawn(136)
        for k in range(2, 13):
            for rule in some_rules(rng, k, 10):
                self.assertIn(life(rule, k - 1), range(2, k + 1))
                self.assertIn(keeps(rule), range(k))
                self.assertLess(keeps(rule), life(rule, k - 1))
                self.assertEqual(life(rule, 0), 1)


class ErrorsTest(CallTest):
    def test_no_rule(self):
        for value, index in NO_RULE:
            with self.subTest(value=value):
                self.fails(InvalidRule, {"index": index}, keeps, value)
                for other in (0, 1, None, -1, True, "0", 101):
                    for call in (life, way_out, lost_way):
                        self.fails(InvalidRule, {"index": index}, call, value, other)
                    for call in (is_way_out, is_lost_way):
                        self.fails(InvalidRule, {"index": index}, call, value, other, [None])

    def test_no_place(self):
        for place in [value for value in WRONG_KINDS if value != 0 or isinstance(value, bool)] + [-1, 2, 12, [0], "1"]:
            with self.subTest(place=place):
                self.fails(InvalidNumber, {}, life, first_in(2), place)
                self.fails(InvalidNumber, {}, way_out, first_in(2), place)
                for value in ([None], None, [True]):
                    self.fails(InvalidNumber, {}, is_way_out, first_in(2), place, value)
        for k in range(2, 13):
            self.fails(InvalidNumber, {}, life, first_in(k), k)
            self.assertEqual(life(first_in(k), k - 1), k)

    def test_no_gap(self):
        for gap in [value for value in WRONG_KINDS if type(value) is not int] + [-1, 101, 10 ** 30, [1], "1"]:
            with self.subTest(gap=gap):
                self.fails(InvalidNumber, {}, lost_way, first_in(2), gap)
                for value in ([None, None], None, ["own"]):
                    self.fails(InvalidNumber, {}, is_lost_way, first_in(2), gap, value)
        self.assertIsNotNone(lost_way(first_in(2), 100))
        self.assertIs(is_lost_way(first_in(2), 100, [None, None]), True)
        self.assertIs(is_lost_way(first_in(2), 0, [None, None]), False)

    def test_values_to_be_judged_raise_nothing(self):
        for value in NO_WAY:
            self.assertIs(is_way_out(tree(4), 3, value), False)
            self.assertIs(is_lost_way(tree(4), 3, value), False)


if __name__ == "__main__":
    unittest.main()
