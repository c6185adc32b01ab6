"""Caches of one or more sets: [2] to [5], [15], [16] and the interface of goesnext.cache."""

import copy
import unittest

from goesnext.cache import Cache, CountingCache, CountingKeepingCache, KeepingCache
from goesnext.errors import (InvalidBlock, InvalidRow, InvalidRows, InvalidRule, InvalidStream, NothingToUndo,
                             WouldGo)
from goesnext.rules import climbing, first_in, last_used, tree
from model import NO_ROW, NO_RULE, NO_STREAM, WRONG_KINDS, CallTest, ModelCache, draw_rule, drawn

PLAIN = (Cache, CountingCache)
KEEPING = (KeepingCache, CountingKeepingCache)
COUNTING = (CountingCache, CountingKeepingCache)
KINDS = PLAIN + KEEPING
NO_BLOCK = [value for value in WRONG_KINDS if type(value) is not int] + [
    -1, 10 ** 9 + 1, 10 ** 30, -10 ** 30, [5], (5,), "5", {"5": 5}, [[]]]


def made(kind, rule, rows, kept=()):
    """A cache of this class; without kept blocks where it has none."""
    if kind in KEEPING:
        return kind(rule, rows, kept=list(kept))
    return kind(rule, rows)


class OwnSets:
    """The sets that the test keeps itself: the first rows and the accesses that are not taken back."""

    def __init__(self, rule, rows, kept=()):
        self.rule, self.begun, self.kept = copy.deepcopy(rule), copy.deepcopy(rows), set(kept)
        self.blocks = []

    def sets(self):
        caches = [ModelCache(self.rule, row) for row in self.begun]
        for block in self.blocks:
            caches[block % len(caches)].access(block)
        return caches

    def rows(self):
        return [cache.row() for cache in self.sets()]

    def by_set(self):
        return [(sum(cache.outcomes), len(cache.outcomes) - sum(cache.outcomes)) for cache in self.sets()]

    def would_go(self, block):
        """The kept block that an access to this one would take out, or None."""
        row = self.rows()[block % len(self.begun)]
        return row[0] if block not in row and row[0] in self.kept else None

    def access(self, block):
        self.blocks.append(block)
        return self.sets()[block % len(self.begun)].outcomes[-1]

    def twin(self):
        other = OwnSets(self.rule, self.begun, self.kept)
        other.blocks = list(self.blocks)
        return other


def draw_sets(rng, k, many):
    """Rows for so many sets, and blocks to be accessed: some of the rows, others of the same sets."""
    rows = []
    for at in range(many):
        low, high = [at + many * one for one in range(k + 3)], 10 ** 9 - (10 ** 9 - at) % many
        rows.append(rng.sample(low + [high, high - many], k))
    blocks = [block for row in rows for block in row] + list(range(2 * many)) + [10 ** 9, 10 ** 9 - many]
    return rows, blocks


class SetsTest(CallTest):
    def same(self, cache, own):
        """The cache shows just what the test's own sets show, in new lists each time."""
        rows, again = cache.rows, cache.rows
        self.assertEqual(repr(rows), repr(own.rows()))
        self.assertEqual(len({id(row) for row in rows + again}), 2 * len(rows))
        counts = own.by_set()
        told = (cache.hits, cache.misses, len(cache))
        self.assertEqual(repr(told), repr((sum(hits for hits, _ in counts), sum(misses for _, misses in counts),
                                           len(own.blocks))))
        if isinstance(cache, COUNTING):
            self.assertEqual(repr(cache.by_set), repr(counts))
            cache.by_set.append("changed")
        if isinstance(cache, KEEPING):
            self.assertEqual(repr(cache.kept), repr(sorted(own.kept)))
            cache.kept.append("changed")
        rows[0].append("changed")
        rows.append("changed")
        self.assertEqual(repr(cache.rows), repr(again))

    def fails_and_stays(self, cache, own, kind, fields, call, *args):
        self.fails(kind, fields, call, *args)
        self.same(cache, own)

    def access(self, cache, own, block):
        gone = own.would_go(block)
        if gone is None:
            self.assertIs(cache.access(block), own.access(block))
            self.same(cache, own)
        else:
            self.fails_and_stays(cache, own, WouldGo, {"block": gone}, cache.access, block)

    def undo(self, cache, own):
        if own.blocks:
            own.blocks.pop()
            self.assertIsNone(cache.undo())
            self.same(cache, own)
        else:
            self.fails_and_stays(cache, own, NothingToUndo, {}, cache.undo)

    def tried(self, cache, own, blocks):
        other, told = own.twin(), []
        for block in blocks:
            gone = other.would_go(block)
            if gone is not None:
                self.fails_and_stays(cache, own, WouldGo, {"block": gone}, cache.tried, *blocks)
                return
            told.append(other.access(block))
        self.assertEqual(repr(cache.tried(*blocks)), repr(told))
        self.assertIsNot(cache.tried(*blocks), cache.tried(*blocks))
        self.same(cache, own)

    def twin(self, cache, own, blocks):
        other, own_other = cache.twin(), own.twin()
        self.assertIs(type(other), type(cache))
        self.assertIsNot(other, cache)
        self.assertTrue(other == cache)
        self.same(other, own_other)
        for block in blocks:
            self.access(other, own_other, block)
        self.same(cache, own)
        while own_other.blocks:
            self.undo(other, own_other)
        self.undo(other, own_other)
        self.same(cache, own)


class LiveTest(SetsTest):
    def live(self, rng, kind, rule, many, calls):
        """So many calls of access and undo, others between them, and then all taken back."""
        rows, blocks = draw_sets(rng, len(rule), many)
        kept = [rng.choice(blocks) for _ in range(rng.randint(0, 4))] if kind in KEEPING else []
        cache, own = made(kind, rule, rows, kept), OwnSets(rule, rows, kept)
        self.same(cache, own)
        for _ in range(calls):
            what = rng.randrange(10)
            if what < 7:
                self.access(cache, own, rng.choice(blocks))
            else:
                self.undo(cache, own)
            if what == 0:
                self.tried(cache, own, [rng.choice(blocks) for _ in range(rng.randint(0, 5))])
            if what == 1 and rng.randrange(4) == 0:
                self.twin(cache, own, [rng.choice(blocks) for _ in range(3)])
        while own.blocks:
            self.undo(cache, own)
        self.undo(cache, own)
        self.assertEqual(cache.rows, rows)
        self.assertTrue(cache == made(kind, rule, rows, kept))

    def test_one_to_sixteen_sets(self):
        rng = drawn(150)
        for many in range(1, 17):
            for kind in KINDS:
                k = rng.randint(2, 5)
                self.live(rng, kind, draw_rule(rng, k), many, 40)

    def test_two_to_twelve_places(self):
        rng = drawn(151)
        for k in range(2, 13):
            for kind in KINDS:
                rule = rng.choice([first_in(k), last_used(k), climbing(k), draw_rule(rng, k)])
                self.live(rng, kind, rule, rng.randint(1, 4), 40)

    def test_long_lives(self):
        rng = drawn(152)
        for kind in KINDS:
            self.live(rng, kind, tree(4), 2, 100)
            self.live(rng, kind, draw_rule(rng, 3), 1, 100)

    def test_two_hundred_calls(self):
        rng = drawn(153)
        for kind in KINDS:
            rows, blocks = draw_sets(rng, 4, 3)
            cache, own = made(kind, tree(4), rows), OwnSets(tree(4), rows)
            for _ in range(100):
                block = rng.choice(blocks)
                self.assertIs(cache.access(block), own.access(block))
            self.same(cache, own)
            for _ in range(100):
                self.assertIsNone(cache.undo())
            self.assertEqual([cache.rows, cache.hits, cache.misses, len(cache)], [rows, 0, 0, 0])
            self.fails(NothingToUndo, {}, cache.undo)


class ExamplesTest(SetsTest):
    def test_sets(self):
        cache = Cache(last_used(2), [[0, 2], [1, 3]])
        self.assertEqual([cache.access(0), cache.access(4), cache.rows, cache.tried(2, 1), cache.hits, len(cache),
                          cache.undo(), cache.rows],
                         [True, False, [[0, 4], [1, 3]], [False, True], 1, 2, None, [[2, 0], [1, 3]]])

    def test_kept_blocks(self):
        cache = KeepingCache(first_in(2), [[5, 6]], kept=[5])
        self.fails(WouldGo, {"block": 5}, cache.access, 7)

    def test_by_name(self):
        for kind in PLAIN:
            self.assertIs(kind(rows=[[5, 6]], rule=first_in(2)).access(block=5), True)
        for kind in KEEPING:
            self.assertIs(kind(kept=[5], rows=[[5, 6]], rule=first_in(2)).access(block=6), True)

    def test_kept_by_name_only(self):
        for kind in KEEPING:
            with self.assertRaises(TypeError):
                kind(first_in(2), [[5, 6]], [5])
            with self.assertRaises(TypeError):
                kind(first_in(2), [[5, 6]])
        for kind in PLAIN:
            with self.assertRaises(TypeError):
                kind(first_in(2), [[5, 6]], kept=[5])

    def test_family(self):
        self.assertEqual([kind.__bases__ for kind in (CountingCache, KeepingCache, CountingKeepingCache)],
                         [(Cache,), (Cache,), (KeepingCache, CountingCache)])


class KeptTest(SetsTest):
    def test_kept_blocks_are_different_and_ascending(self):
        for kind in KEEPING:
            cache = kind(first_in(2), [[4, 6], [1, 3]], kept=[9, 1, 9, 4, 10 ** 9, 0, 1])
            self.assertEqual(cache.kept, [0, 1, 4, 9, 10 ** 9])
            self.assertIsNot(cache.kept, cache.kept)
            self.assertEqual(kind(first_in(2), [[4, 6]], kept=[]).kept, [])
            self.assertEqual(len(kind(first_in(2), [[4, 6]], kept=list(range(500))).kept), 500)

    def test_what_would_go(self):
        for kind in KEEPING:
            cache, own = kind(last_used(2), [[4, 6], [1, 3]], kept=[4, 3]), OwnSets(last_used(2), [[4, 6], [1, 3]],
                                                                                    [4, 3])
            self.fails_and_stays(cache, own, WouldGo, {"block": 4}, cache.access, 8)
            self.access(cache, own, 5)
            self.fails_and_stays(cache, own, WouldGo, {"block": 3}, cache.access, 1)
            self.access(cache, own, 3)
            self.access(cache, own, 1)
            self.access(cache, own, 4)
            self.access(cache, own, 8)
            self.fails_and_stays(cache, own, WouldGo, {"block": 4}, cache.tried, 4, 8, 10, 4, 12, 14)
            self.tried(cache, own, [4, 6, 4, 10, 4, 12])
            self.assertEqual(cache.kept, [3, 4])

    def test_a_kept_block_that_comes_in_must_stay(self):
        cache = KeepingCache(first_in(2), [[1, 2]], kept=[3])
        self.assertEqual([cache.access(3), cache.access(4)], [False, False])
        self.fails(WouldGo, {"block": 3}, cache.access, 5)
        self.assertIs(cache.access(3), True)
        self.assertEqual([cache.rows, cache.misses, len(cache)], [[[3, 4]], 2, 3])

    def test_tried_lets_all_blocks_be_blocks_first(self):
        for kind in KEEPING:
            cache = kind(first_in(2), [[5, 6]], kept=[5])
            self.fails(InvalidBlock, {}, cache.tried, 7, -1)
            self.fails(WouldGo, {"block": 5}, cache.tried, 7, 8)
            self.fails(WouldGo, {"block": 5}, cache.tried, 6, 5, 7)


class GivenValuesTest(SetsTest):
    def test_values_that_are_changed_later(self):
        rng = drawn(154)
        for kind in KINDS:
            rule, rows, kept = draw_rule(rng, 3), [[0, 2, 4], [1, 3, 5]], [0, 8]
            before = repr((rule, rows, kept))
            own = OwnSets(rule, rows, kept if kind in KEEPING else [])
            cache = kind(rule, rows, kept=kept) if kind in KEEPING else kind(rule, rows)
            self.assertEqual(before, repr((rule, rows, kept)))
            rule[0].reverse()
            rule[1] = list(range(3))
            rows[0][0] = 6
            rows.append([2, 5, 8])
            kept.append(3)
            kept[0] = 1
            for block in [4, 1, 3, 8, 9, 0, 2]:
                self.access(cache, own, block)

    def test_rows_of_a_twin_are_its_own(self):
        for kind in KINDS:
            cache = made(kind, last_used(2), [[0, 2], [1, 3]], [1])
            cache.access(0)
            other = cache.twin()
            other.undo()
            self.assertEqual([cache.rows, len(cache)], [[[2, 0], [1, 3]], 1])
            cache.access(4)
            self.assertEqual([other.rows, len(other), other.hits], [[[0, 2], [1, 3]], 0, 0])
            third = cache.twin().twin()
            self.assertIs(type(third), kind)
            third.undo()
            third.undo()
            self.fails(NothingToUndo, {}, third.undo)
            self.assertEqual(third.rows, [[0, 2], [1, 3]])

    def test_properties_are_not_set(self):
        for kind in KINDS:
            cache = made(kind, last_used(2), [[0, 2], [1, 3]], [1])
            for name in ["rows", "hits", "misses"] + ["by_set"] * (kind in COUNTING) + ["kept"] * (kind in KEEPING):
                with self.assertRaises(AttributeError):
                    setattr(cache, name, [])

    def test_what_the_classes_do_not_have(self):
        for kind in KINDS:
            cache = made(kind, last_used(2), [[0, 2]])
            self.assertIs(hasattr(cache, "by_set"), kind in COUNTING)
            self.assertIs(hasattr(cache, "kept"), kind in KEEPING)

    def test_caches_with_no_access_are_no_less(self):
        cache = Cache(first_in(2), [[5, 6]])
        self.assertEqual([len(cache), cache.tried(), cache.hits, cache.misses], [0, [], 0, 0])


class EqualTest(CallTest):
    def differ(self, one, other):
        self.assertIs(one == other, False)
        self.assertIs(other == one, False)
        self.assertIs(one != other, True)

    def alike(self, one, other):
        self.assertIs(one == other, True)
        self.assertIs(one != other, False)

    def test_each_part(self):
        rule, rows = first_in(2), [[0, 2], [1, 3]]
        for kind in KINDS:
            one = made(kind, rule, rows, [9])
            self.alike(one, one)
            self.alike(one, made(kind, copy.deepcopy(rule), copy.deepcopy(rows), [9, 9]))
            self.differ(one, made(kind, last_used(2), rows, [9]))
            self.differ(one, made(kind, rule, [[2, 0], [1, 3]], [9]))
            self.differ(one, made(kind, rule, [[0, 2], [1, 5]], [9]))
            self.differ(one, made(kind, rule, [[0, 1]], [9]))
            if kind in KEEPING:
                self.differ(one, made(kind, rule, rows, [8]))
                self.differ(one, made(kind, rule, rows, []))
                self.differ(one, made(kind, rule, rows, [9, 10]))

    def test_hits_and_misses(self):
        for kind in KINDS:
            one, other, third = [made(kind, first_in(2), [[0, 2], [1, 3]]) for _ in range(3)]
            one.access(0)
            self.differ(one, other)
            other.access(2)
            self.alike(one, other)
            one.undo()
            self.differ(one, other)
            self.alike(one, third)
            # These rows come back by misses, or by more of them.
            for block in (4, 6, 0, 2):
                third.access(block)
            self.assertEqual(third.rows, one.rows)
            self.differ(one, third)
            third.access(0)
            one.access(2)
            self.differ(one, third)

    def test_what_can_be_taken_back_does_not_count(self):
        for kind in KINDS:
            one, other = [made(kind, first_in(2), [[0, 2], [1, 3]]) for _ in range(2)]
            for block in (0, 1):
                one.access(block)
            for block in (3, 2):
                other.access(block)
            self.alike(one, other)
            self.alike(one.twin(), other)

    def test_other_classes(self):
        caches = [made(kind, first_in(2), [[0, 2]]) for kind in KINDS]
        for at, one in enumerate(caches):
            for other in caches[:at]:
                self.differ(one, other)

    def test_other_kinds(self):
        for kind in KINDS:
            cache = made(kind, first_in(2), [[0, 2]])
            for value in WRONG_KINDS + [[[0, 2]], first_in(2), "Cache", kind, (first_in(2), [[0, 2]])]:
                self.differ(cache, value)

    def test_another_class_with_the_same_name(self):
        for kind in KINDS:
            other = type(kind.__name__, (), {"rows": [[0, 2]], "hits": 0, "misses": 0})()
            self.differ(made(kind, first_in(2), [[0, 2]]), other)

    def test_no_dict_keys(self):
        for kind in KINDS:
            with self.assertRaises(TypeError):
                hash(made(kind, first_in(2), [[0, 2]]))


class ErrorsTest(SetsTest):
    def constructors(self, rule, rows, kept=(5,)):
        for kind in KINDS:
            named = {"kept": list(kept) if isinstance(kept, tuple) else kept} if kind in KEEPING else {}
            yield (kind, rule, rows), named

    def fails_made(self, error, index, rule, rows, kept=(5,)):
        for args, named in self.constructors(rule, rows, kept):
            self.fails(error, {"index": index}, *args, **named)

    def test_no_rule(self):
        for value, index in NO_RULE:
            with self.subTest(value=value):
                for rows in ([[5, 6]], None, [], [[5, 5]]):
                    self.fails_made(InvalidRule, index, value, rows)
                    self.fails_made(InvalidRule, index, value, rows, {})

    def test_no_rows(self):
        rows = [(value, None) for value in WRONG_KINDS if not isinstance(value, list)] + [
            ([], None), (([5, 6],), None), ("56", None), ({"0": [5, 6]}, None),
            ([[]], 0), ([None], 0), ([5, 6], 0), ([(5, 6)], 0), ([[5, 6], [5, 7]], 0), ([[0, 2], [1, 3], [5, 8]], 0),
            ([[0, 3], [1, 4], [5, 5]], 2), ([[0, 2], [1, 4]], 1), ([[0, 2], [4, 1]], 1), ([[0, 2], [1, True]], 1),
            ([[0, 2], [1, 3, 5]], 1), ([[0, 2], [1]], 1), ([[0, 2], (1, 3)], 1), ([[0, 2], None], 1),
            ([[1, 2], [0, 3]], 0), ([[0, 2], "13"], 1), ([[0, 2], {}], 1), ([[0, 16]] + [[0, 16]] * 15, 1),
            ([[at, at + 16] for at in range(15)] + [[15, 32]], 15), ([[0, 2], [1, "3"]], 1), ([[0, 2], [1, [3]]], 1),
        ] + [([value], 0) for value, _ in NO_ROW]
        for value, index in rows:
            with self.subTest(value=value):
                self.fails_made(InvalidRows, index, first_in(2), value)
                self.fails_made(InvalidRows, index, last_used(2), value, {})
        self.fails_made(InvalidRows, 0, first_in(3), [[5, 6]])

    def test_more_than_sixteen_sets(self):
        for kind in KINDS:
            cache = made(kind, first_in(2), [[at, at + 20] for at in range(20)])
            self.assertEqual([cache.access(39), cache.access(59)], [True, False])

    def test_no_kept_blocks(self):
        for value, index in NO_STREAM:
            with self.subTest(value=value):
                for kind in KEEPING:
                    self.fails(InvalidStream, {"index": index}, kind, first_in(2), [[5, 6]], kept=value)
                    self.fails(InvalidRows, {"index": 0}, kind, first_in(2), [[5, 5]], kept=value)

    def test_no_block(self):
        for kind in KINDS:
            cache, own = made(kind, first_in(2), [[4, 6], [5, 7]], [4, 7]), OwnSets(first_in(2), [[4, 6], [5, 7]],
                                                                                    [4, 7] * (kind in KEEPING))
            self.access(cache, own, 5)
            for value in NO_BLOCK:
                with self.subTest(kind=kind, value=value):
                    self.fails_and_stays(cache, own, InvalidBlock, {}, cache.access, value)
                    for blocks in ([value], [4, value], [value, 4, value], [8, value], [5, 9, 11, value]):
                        self.fails_and_stays(cache, own, InvalidBlock, {}, cache.tried, *blocks)
            self.undo(cache, own)
            self.undo(cache, own)

    def test_nothing_to_undo(self):
        for kind in KINDS:
            cache, own = made(kind, first_in(2), [[4, 6]], [4]), OwnSets(first_in(2), [[4, 6]],
                                                                         [4] * (kind in KEEPING))
            self.undo(cache, own)
            self.access(cache, own, 8)
            self.fails(InvalidBlock, {}, cache.access, -1)
            self.assertEqual(len(cache), len(own.blocks))
            self.undo(cache, own)
            self.undo(cache, own)

    def test_errors_are_not_rows_of_their_own(self):
        # InvalidRow is for rows that stand alone.
        for kind in KINDS:
            with self.assertRaises(InvalidRows) as caught:
                made(kind, first_in(2), [[5, 5]])
            self.assertNotIsInstance(caught.exception, InvalidRow)


if __name__ == "__main__":
    unittest.main()
