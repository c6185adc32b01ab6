"""Groups of permutations: [2], [3], [9] and the interface of goesnext.groups."""

import copy
import itertools
import math
import time
import unittest

from goesnext.errors import InvalidPermutation, InvalidPermutations, InvalidRule, OtherSize, TooMany
from goesnext.groups import (chain_lengths, group_order, is_member, members, rows_by_hits, states_needed,
                             word_for)
from goesnext.rules import climbing, first_in, last_used, tree
from model import NO_RULE, WRONG_KINDS, CallTest, draw_permutation, draw_rule, drawn

NO_PERMUTATION = WRONG_KINDS + [
    [], [1], [True], [0, 0], [0, 2], [1, 2], [0, True], [False, 1], [0, "1"], [0, None], [0, [1]], (0, 1), [[0, 1]],
    list(range(13)), [-1, 0],
]
NO_PERMUTATIONS = [(value, None) for value in WRONG_KINDS if not isinstance(value, list)] + [
    ([], None), (([0, 1],), None), ("01", None), ({"0": [0, 1]}, None),
    ([None], 0), ([[]], 0), ([0, 1], 0), ([[0, 1], [0, 0]], 1), ([[0, 1], [0, 1, 2]], 1), ([[0], [0], [0, 1]], 2),
    ([[0, 1], [1, 0], (0, 1)], 2), ([[0, True], [0, 1]], 0), ([[0, 1], [True, 0]], 1), ([[1], [0]], 0),
    ([[0, 1], None, [0, 1, 2]], 1), ([list(range(13))], 0), ([[0, 1, 2], [0, 1]], 1), ([[0, 1]] * 30 + [[1, 1]], 30),
    ([[[0, 1], [0, 1]]], 0), ([[0, 0], [0]], 0), ([[0, 1], "01"], 1),
]


def made_by(given):
    """All permutations that the given ones make, by making one behind another until there is none new."""
    found = {tuple(range(len(given[0])))}
    edge = list(found)
    while edge:
        made = {tuple(by[item] for item in one) for one in edge for by in given}
        edge = list(made - found)
        found |= made
    return found


def distances(given):
    """How many given permutations each member takes."""
    start = tuple(range(len(given[0])))
    far = {start: 0}
    queue = [start]
    for one in queue:
        for by in given:
            made = tuple(by[item] for item in one)
            if made not in far:
                far[made] = far[one] + 1
                queue.append(made)
    return far


def swap(size, i, j):
    one = list(range(size))
    one[i], one[j] = j, i
    return one


def ring(size, first=0, many=None):
    """A turn of the items from first on, the others left alone."""
    many = size - first if many is None else many
    one = list(range(size))
    for at in range(many):
        one[first + at] = first + (at + 1) % many
    return one


def whole(size, first=0, many=None):
    many = size - first if many is None else many
    if many < 2:
        return [list(range(size))]
    return [swap(size, first, first + 1), ring(size, first, many)]


def even(size):
    return [list(range(size))] + [ring_of(size, [0, 1, i]) for i in range(2, size)]


def ring_of(size, items):
    one = list(range(size))
    for at, item in enumerate(items):
        one[item] = items[(at + 1) % len(items)]
    return one


def mirror(size):
    return [(-item) % size for item in range(size)]


def blocks(size, many):
    """Equal blocks of so many items, exchanged and moved within."""
    next_one = [(item + many) % size for item in range(size)]
    first_two = [item + many if item < many else item - many if item < 2 * many else item for item in range(size)]
    return whole(size, 0, many) + [next_one, first_two]


def named_groups():
    """Pairs of permutations and the order of their group, for up to twelve items."""
    for size in range(1, 13):
        yield whole(size), math.factorial(size)
        yield [ring(size)], size
        yield [list(range(size))], 1
        if size > 2:
            yield even(size), math.factorial(size) // 2
            yield [ring(size), mirror(size)], 2 * size
        for part in range(1, size):
            yield (whole(size, 0, part) + whole(size, part), math.factorial(part) * math.factorial(size - part))
        for many in range(2, size):
            if size % many == 0:
                parts = size // many
                yield blocks(size, many), math.factorial(many) ** parts * math.factorial(parts)


def drawn_groups(seed, most, each):
    rng = drawn(seed)
    for size in range(1, most + 1):
        for _ in range(each):
            given = [draw_permutation(rng, size) for _ in range(rng.randint(1, 3))]
            if rng.random() < 0.3:
                given.append(list(range(size)))
            if rng.random() < 0.3:
                given.insert(0, list(rng.choice(given)))
            if rng.random() < 0.5 and size > 2:
                # Some items stay apart, so that the group is not mostly the whole one.
                part = rng.randint(1, size - 1)
                given = [draw_permutation(rng, part) + [part + item for item in draw_permutation(rng, size - part)]
                         for _ in given]
            yield given


def lengths_of(found):
    """The lengths by their definition, from the list of all members."""
    size = len(min(found))
    return [len({one[m] for one in found if one[:m] == tuple(range(m))}) for m in range(size)]


class ExamplesTest(CallTest):
    def test_examples(self):
        self.assertEqual(
            [group_order([[1, 0, 2], [1, 2, 0]]), is_member([[1, 2, 0]], [1, 0, 2]), chain_lengths([[1, 2, 0]]),
             len(word_for([[1, 0, 2], [0, 2, 1]], [2, 1, 0]))], [6, False, [3, 1, 1], 3])
        self.assertEqual(
            [members([[1, 2, 0]]), states_needed(tree(4)), states_needed(last_used(4)), states_needed(first_in(4)),
             rows_by_hits(first_in(4))], [[[0, 1, 2], [1, 2, 0], [2, 0, 1]], 8, 24, 4, 1])

    def test_by_name(self):
        given = [[1, 2, 0]]
        self.assertEqual(
            [group_order(permutations=given), is_member(one=[2, 0, 1], permutations=given), members(permutations=given),
             chain_lengths(permutations=given), word_for(one=[2, 0, 1], permutations=given),
             states_needed(rule=tree(2)), rows_by_hits(rule=tree(2))],
            [3, True, [[0, 1, 2], [1, 2, 0], [2, 0, 1]], [3, 1, 1], [0, 0], 2, 2])


class ListedTest(CallTest):
    """Groups of up to six items, listed by the test itself."""

    def test_order_members_and_lengths(self):
        for given in drawn_groups(30, 6, 25):
            found = made_by(given)
            self.assertEqual(self.steady(group_order, given), len(found))
            self.assertEqual(self.steady(members, given), [list(one) for one in sorted(found)])
            self.assertEqual(self.steady(chain_lengths, given), lengths_of(found))

    def test_is_member(self):
        rng = drawn(31)
        for given in drawn_groups(32, 6, 8):
            found = made_by(given)
            size = len(given[0])
            every = list(itertools.permutations(range(size)))
            for one in every if size < 6 else rng.sample(every, 120):
                self.assertIs(is_member(given, list(one)), one in found)
            one = draw_permutation(rng, size)
            self.assertIs(self.steady(is_member, given, one), tuple(one) in found)

    def test_all_pairs_of_four_items(self):
        for one, other in itertools.product(itertools.permutations(range(4)), repeat=2):
            given = [list(one), list(other)]
            found = made_by(given)
            self.assertEqual(group_order(given), len(found))
            self.assertEqual(chain_lengths(given), lengths_of(found))

    def test_one_item(self):
        self.assertEqual([group_order([[0]]), members([[0]]), chain_lengths([[0]]), is_member([[0]], [0]),
                          word_for([[0]], [0])], [1, [[0]], [1], True, []])


class NamedTest(CallTest):
    """Groups of up to twelve items whose orders are known."""

    def test_orders(self):
        for given, order in named_groups():
            with self.subTest(given=given):
                self.assertEqual(group_order(given), order)
                self.assertEqual(math.prod(chain_lengths(given)), order)
                self.assertEqual(len(chain_lengths(given)), len(given[0]))
                self.assertIs(type(group_order(given)), int)

    def test_lengths(self):
        for size in range(1, 13):
            self.assertEqual(chain_lengths(whole(size)), list(range(size, 0, -1)))
            self.assertEqual(chain_lengths([ring(size)]), [size] + [1] * (size - 1))
            if size > 2:
                self.assertEqual(chain_lengths(even(size)), list(range(size, 2, -1)) + [1, 1])
            if size > 3:
                self.assertEqual(chain_lengths(whole(size, 2)), [1, 1] + list(range(size - 2, 0, -1)))

    def test_members_of_the_whole_and_the_even_ones(self):
        rng = drawn(33)
        for size in range(2, 13):
            for _ in range(10):
                one = draw_permutation(rng, size)
                turned = sum(one[i] > one[j] for i, j in itertools.combinations(range(size), 2))
                self.assertIs(is_member(whole(size), one), True)
                self.assertIs(is_member(even(size), one), turned % 2 == 0)

    def test_members_of_rings_and_blocks(self):
        rng = drawn(34)
        for size in range(3, 13):
            turns = [[(item + by) % size for item in range(size)] for by in range(size)]
            mirrors = [[(by - item) % size for item in range(size)] for by in range(size)]
            self.assertEqual(members([ring(size)]), sorted(turns))
            self.assertEqual(members([ring(size), mirror(size)]), sorted(turns + mirrors))
            for one in turns + [draw_permutation(rng, size) for _ in range(5)]:
                self.assertIs(is_member([ring(size)], one), one in turns)
                self.assertIs(is_member([mirror(size), ring(size)], one), one in turns + mirrors)
        for size, many in [(4, 2), (6, 2), (6, 3), (8, 4), (9, 3), (12, 2), (12, 3), (12, 4), (12, 6)]:
            for _ in range(10):
                one = draw_permutation(rng, size)
                if rng.random() < 0.5:
                    within = [draw_permutation(rng, many) for _ in range(size // many)]
                    order = draw_permutation(rng, size // many)
                    one = [order[item // many] * many + within[item // many][item % many] for item in range(size)]
                kept = all(len({one[item] // many for item in range(low, low + many)}) == 1
                           for low in range(0, size, many))
                self.assertIs(is_member(blocks(size, many), one), kept)

    def test_two_parts(self):
        rng = drawn(35)
        for part in range(1, 12):
            given = whole(12, 0, part) + whole(12, part)
            inside = draw_permutation(rng, part) + [part + item for item in draw_permutation(rng, 12 - part)]
            self.assertIs(is_member(given, inside), True)
            self.assertIs(is_member(given, swap(12, part - 1, part)), False)

    def test_large_groups_take_little_time(self):
        rng = drawn(36)
        start = time.perf_counter()
        for _ in range(10):
            given = [draw_permutation(rng, 12) for _ in range(3)]
            self.assertEqual(group_order(given + whole(12)), math.factorial(12))
            self.assertIs(is_member(given + whole(12), draw_permutation(rng, 12)), True)
            self.fails(TooMany, {"limit": 2000}, members, given + whole(12))
        self.assertEqual(group_order([draw_permutation(rng, 12) for _ in range(2000)]), math.factorial(12))
        self.assertLess(time.perf_counter() - start, 30)


class MembersTest(CallTest):
    def test_two_thousand(self):
        # Rings of three that are exchanged, and the 168 of seven items beside the even ones of four.
        rings = [ring(12, 0, 3), [(item + 3) % 12 for item in range(12)], [3, 4, 5, 0, 1, 2, 6, 7, 8, 9, 10, 11]]
        seven = [ring(11, 0, 7), [0, 2, 1, 6, 4, 5, 3, 7, 8, 9, 10]]
        four = [ring_of(11, [7, 8, 9]), ring_of(11, [8, 9, 10])]
        self.assertEqual([group_order(rings), group_order(seven), group_order(seven + four)], [1944, 168, 2016])
        self.assertEqual(members(rings), [list(one) for one in sorted(made_by(rings))])
        self.fails(TooMany, {"limit": 2000}, members, seven + four)
        self.fails(TooMany, {"limit": 2000}, members, whole(7))
        self.assertEqual(len(members(whole(6))), 720)

    def test_ascending_and_new(self):
        for given in [whole(4), blocks(8, 4), [ring(12)], even(6), blocks(6, 2)]:
            found = self.steady(members, given)
            self.assertTrue(all(one < other for one, other in zip(found, found[1:])))
            self.assertEqual(len(found), group_order(given))

    def test_a_list_that_grew(self):
        given = [[1, 0, 2, 3]]
        self.assertEqual([group_order(given), len(members(given)), chain_lengths(given), is_member(given, [1, 2, 0, 3]),
                          word_for(given, [1, 2, 0, 3])], [2, 2, [2, 1, 1, 1], False, None])
        given.append([1, 2, 0, 3])
        self.assertEqual([group_order(given), len(members(given)), chain_lengths(given), is_member(given, [1, 2, 0, 3]),
                          word_for(given, [1, 2, 0, 3])], [6, 6, [3, 2, 1, 1], True, [1]])
        given[1][2:] = [3, 0]
        self.assertEqual([group_order(given), is_member(given, [0, 1, 3, 2])], [24, True])


class WordForTest(CallTest):
    def check(self, given, one, far):
        word = self.steady(word_for, given, one)
        if tuple(one) not in far:
            self.assertIsNone(word)
            return
        self.assertIs(type(word), list)
        made = list(range(len(one)))
        for index in word:
            self.assertIs(type(index), int)
            self.assertIn(index, range(len(given)))
            made = [given[index][item] for item in made]
        self.assertEqual(made, one)
        self.assertEqual(len(word), far[tuple(one)])

    def test_against_a_search(self):
        rng = drawn(37)
        for given in drawn_groups(38, 6, 6):
            far = distances(given)
            size = len(given[0])
            every = list(itertools.permutations(range(size)))
            for one in every if size < 4 else rng.sample(every, 12) + [max(far, key=far.get)]:
                self.check(given, list(one), far)

    def test_far_ones(self):
        for size in range(2, 7):
            steps = [swap(size, i, i + 1) for i in range(size - 1)]
            self.assertEqual(len(word_for(steps, list(range(size))[::-1])), size * (size - 1) // 2)
            self.assertEqual(word_for([ring(size)], [(item - 1) % size for item in range(size)]), [0] * (size - 1))
            self.assertIsNone(word_for([ring(size)], swap(size, 0, 1)) if size > 2 else None)

    def test_the_order_of_the_word(self):
        given = [[1, 0, 2], [0, 2, 1]]
        self.assertEqual(word_for(given, [2, 0, 1]), [0, 1])
        self.assertEqual(word_for(given, [1, 2, 0]), [1, 0])

    def test_identity(self):
        for given in drawn_groups(39, 6, 5):
            self.assertEqual(self.steady(word_for, given, list(range(len(given[0])))), [])

    def test_given_twice(self):
        given = [[0, 1, 2], [1, 2, 0], [0, 1, 2], [1, 2, 0], [1, 0, 2], [1, 2, 0]]
        far = distances(given)
        for one in itertools.permutations(range(3)):
            self.check(given, list(one), far)

    def test_many_given(self):
        given = [list(one) for one in itertools.permutations(range(6))]
        self.assertEqual(given[word_for(given, [5, 3, 1, 0, 2, 4])[0]], [5, 3, 1, 0, 2, 4])

    def test_seven_items(self):
        self.check(whole(7), [6, 5, 4, 3, 2, 1, 0], distances(whole(7)))
        self.assertIsNone(word_for(even(12), swap(12, 4, 9)))


class StatesTest(CallTest):
    def walked(self, rule, misses):
        """How many lists of the lines at the places hits, and perhaps misses, lead to."""
        k = len(rule)
        found = {tuple(range(k))}
        queue = list(found)
        for lines in queue:
            behind = []
            for place in range(k):
                told = [None] * k
                for j in range(k):
                    told[rule[place][j]] = lines[j]
                behind.append(tuple(told))
            if misses:
                behind.append(lines[1:] + lines[:1])
            for told in behind:
                if told not in found:
                    found.add(told)
                    queue.append(told)
        return len(found)

    def test_small_rules(self):
        rng = drawn(40)
        for k in range(2, 6):
            rules = [draw_rule(rng, k) for _ in range(6)] + [first_in(k), last_used(k), climbing(k)]
            for size in range(1, k + 1):
                # Hits that move few places make small groups.
                rules.append([draw_permutation(rng, size) + list(range(size, k)) for _ in range(k)])
                rules.append([list(range(k)) for _ in range(k)])
                rules[-1][size - 1] = draw_permutation(rng, k)
            for rule in rules:
                self.assertEqual(self.steady(states_needed, rule), self.walked(rule, True))
                self.assertEqual(self.steady(rows_by_hits, rule), self.walked(rule, False))

    def test_named_rules(self):
        for k in range(2, 13):
            self.assertEqual([states_needed(first_in(k)), rows_by_hits(first_in(k))], [k, 1])
            for rule in (last_used(k), climbing(k)):
                self.assertEqual([states_needed(rule), rows_by_hits(rule)], [math.factorial(k)] * 2)
        for k, many in [(2, 2), (4, 8), (8, 128)]:
            self.assertEqual([states_needed(tree(k)), rows_by_hits(tree(k))], [many, many])

    def test_twelve_places_take_little_time(self):
        rng = drawn(41)
        start = time.perf_counter()
        for k in range(7, 13):
            for rule in [draw_rule(rng, k) for _ in range(3)]:
                self.assertEqual(states_needed(rule) % rows_by_hits(rule), 0)
        self.assertLess(time.perf_counter() - start, 30)


class ErrorsTest(CallTest):
    def test_no_permutations(self):
        for value, index in NO_PERMUTATIONS:
            with self.subTest(value=value):
                for call in (group_order, members, chain_lengths):
                    self.fails(InvalidPermutations, {"index": index}, call, value)
                for one in ([0, 1], None, [0]):
                    self.fails(InvalidPermutations, {"index": index}, is_member, value, one)
                    self.fails(InvalidPermutations, {"index": index}, word_for, value, one)

    def test_each_index(self):
        for size in range(1, 13):
            given = [list(range(size)) for _ in range(5)]
            for index in range(5):
                for wrong in ([0] * size + [0], list(range(size % 12 + 1)), [True] * size, tuple(range(size)), None):
                    other = copy.deepcopy(given)
                    other[index] = wrong
                    told = index if index or wrong != list(range(size % 12 + 1)) else 1
                    self.fails(InvalidPermutations, {"index": told}, group_order, other)

    def test_no_permutation(self):
        for value in NO_PERMUTATION:
            with self.subTest(value=value):
                self.fails(InvalidPermutation, {}, is_member, [[0, 1]], value)
                self.fails(InvalidPermutation, {}, word_for, [[0, 1]], value)
                self.fails(InvalidPermutation, {}, word_for, [[0, 1, 2]], value)

    def test_other_size(self):
        for size in range(1, 13):
            for other in range(1, 13):
                if size != other:
                    self.fails(OtherSize, {}, is_member, [list(range(size))] * 2, list(range(other)))
                    self.fails(OtherSize, {}, word_for, [list(range(size))] * 2, list(range(other)))

    def test_no_rule(self):
        for value, index in NO_RULE:
            with self.subTest(value=value):
                self.fails(InvalidRule, {"index": index}, states_needed, value)
                self.fails(InvalidRule, {"index": index}, rows_by_hits, value)


if __name__ == "__main__":
    unittest.main()
