"""Permutations: [2], [3], [4] and the interface of goesnext.permutations."""

import copy
import itertools
import math
import unittest

from goesnext.errors import InvalidNumber, InvalidPermutation, OtherSize
from goesnext.permutations import after, cycles, inverse, is_permutation, power, turns
from model import WRONG_KINDS, CallTest, draw_permutation, drawn

NONE_OF_THEM = WRONG_KINDS + [
    [], [1], [-1], [True], [False], ["0"], [None], [[0]], [(0,)], [0, 0], [1, 1], [0, 2], [1, 2], [0, -1], [-1, 0],
    [0, True], [False, 1], [True, False], [0, "1"], [0, None], [0, [1]], [0, {}], (0,), ([0, 1],), [[0, 1]],
    [0, 1, 2, 4], [0, 1, 1, 2], [3, 2, 1, 3], [1, 2, 3], [0, 1, 10 ** 40],
    list(range(13)), list(range(14)), list(range(1, 13)), tuple(range(12)), {"0": [0, 1]},
]


class IsPermutationTest(CallTest):
    def test_lists_of_one_to_twelve(self):
        rng = drawn(1)
        for size in range(1, 13):
            for one in [list(range(size)), list(range(size))[::-1], draw_permutation(rng, size)]:
                self.assertIs(self.steady(is_permutation, one), True)

    def test_all_small_lists(self):
        for size in range(1, 5):
            for items in itertools.product(range(-1, size + 1), repeat=size):
                self.assertIs(is_permutation(list(items)), set(items) == set(range(size)))

    def test_other_values(self):
        for value in NONE_OF_THEM:
            with self.subTest(value=value):
                self.assertIs(self.steady(is_permutation, value), False)

    def test_one_item_wrong(self):
        for size in range(1, 13):
            for place in range(size):
                for wrong in [-1, size, True, False, None, "0", [], (), {}, (place,), [place]]:
                    one = list(range(size))
                    one[place] = wrong
                    self.assertIs(is_permutation(one), False)

    def test_deep_values(self):
        deep = [0]
        for _ in range(11):
            deep = [deep]
        self.assertIs(is_permutation(deep), False)

    def test_by_name(self):
        self.assertIs(is_permutation(value=[0]), True)


class MadeTest(CallTest):
    def setUp(self):
        rng = drawn(2)
        self.some = [draw_permutation(rng, size) for size in range(1, 13) for _ in range(6)]
        self.some += [list(one) for size in range(1, 5) for one in itertools.permutations(range(size))]

    def test_examples(self):
        self.assertEqual(
            [after([1, 2, 0], [0, 2, 1]), inverse([1, 2, 0]), cycles([1, 0, 2]), turns([1, 2, 0, 4, 3]),
             power([1, 2, 0], -1)],
            [[2, 1, 0], [2, 0, 1], [[0, 1], [2]], 6, [2, 0, 1]])

    def test_by_hand(self):
        self.assertEqual(after([0, 2, 1], [1, 2, 0]), [1, 0, 2])
        self.assertEqual(after([0], [0]), [0])
        self.assertEqual(inverse([3, 0, 2, 1]), [1, 3, 2, 0])
        self.assertEqual(cycles([2, 3, 4, 1, 0, 5]), [[0, 2, 4], [1, 3], [5]])
        self.assertEqual(cycles([0, 1, 2]), [[0], [1], [2]])
        self.assertEqual(cycles([3, 0, 1, 2]), [[0, 3, 2, 1]])
        self.assertEqual([turns([0]), turns([0, 1]), turns([1, 0]), turns([1, 0, 3, 2])], [1, 1, 2, 2])
        self.assertEqual(power([1, 2, 3, 0], 2), [2, 3, 0, 1])

    def test_by_name(self):
        self.assertEqual(after(second=[0, 2, 1], first=[1, 2, 0]), [2, 1, 0])
        self.assertEqual(inverse(one=[1, 2, 0]), [2, 0, 1])
        self.assertEqual(cycles(one=[1, 0]), [[0, 1]])
        self.assertEqual(turns(one=[1, 0]), 2)
        self.assertEqual(power(times=-1, one=[1, 2, 0]), [2, 0, 1])

    def test_after_item_by_item(self):
        rng = drawn(3)
        for first in self.some:
            second = draw_permutation(rng, len(first))
            made = self.steady(after, first, second)
            for j in range(len(first)):
                self.assertEqual(made[j], second[first[j]])
            self.assertEqual(self.steady(after, first, first), [first[item] for item in first])

    def test_three_in_either_grouping(self):
        rng = drawn(4)
        for first in self.some:
            second, third = draw_permutation(rng, len(first)), draw_permutation(rng, len(first))
            self.assertEqual(after(after(first, second), third), after(first, after(second, third)))

    def test_inverse_undoes(self):
        for one in self.some:
            back = self.steady(inverse, one)
            same = list(range(len(one)))
            self.assertEqual([after(one, back), after(back, one), inverse(back)], [same, same, one])

    def test_cycles(self):
        for one in self.some:
            found = self.steady(cycles, one)
            self.assertEqual(sorted(sum(found, [])), list(range(len(one))))
            self.assertEqual(found, sorted(found))
            for cycle in found:
                self.assertEqual(cycle[0], min(cycle))
                self.assertEqual([one[item] for item in cycle], cycle[1:] + cycle[:1])

    def test_turns_is_the_least_number(self):
        for one in self.some:
            made, many = list(one), 1
            while made != list(range(len(one))):
                made, many = [one[item] for item in made], many + 1
            self.assertEqual(self.steady(turns, one), many)

    def test_turns_of_unlike_lengths(self):
        self.assertEqual(turns([1, 2, 0, 4, 5, 6, 3, 8, 9, 10, 11, 7]), 60)
        self.assertEqual(turns([1, 0, 3, 4, 5, 2]), 4)
        self.assertEqual(turns([1, 2, 3, 4, 5, 0, 7, 8, 9, 6]), 12)

    def test_power_step_by_step(self):
        for one in self.some:
            made = list(range(len(one)))
            for times in range(8):
                self.assertEqual(self.steady(power, one, times), made)
                self.assertEqual(self.steady(power, one, -times), inverse(made))
                made = [one[item] for item in made]

    def test_power_of_great_numbers(self):
        for one in self.some:
            for times in [10 ** 30, 10 ** 30 - 1, 10 ** 29 + 7, 123456789]:
                near = power(one, times % turns(one))
                self.assertEqual(self.steady(power, one, times), near)
                self.assertEqual(self.steady(power, one, -times), inverse(near))

    def test_power_of_a_sum(self):
        rng = drawn(5)
        for one in self.some:
            a, b = rng.randint(-10 ** 29, 10 ** 29), rng.randint(-10 ** 29, 10 ** 29)
            self.assertEqual(power(one, a + b), after(power(one, a), power(one, b)))
            self.assertEqual(power(one, turns(one)), list(range(len(one))))

    def test_turns_is_an_integer(self):
        self.assertIs(type(turns([0])), int)
        self.assertEqual(max(turns(one) for one in self.some) <= math.factorial(12), True)


class ErrorsTest(CallTest):
    def test_no_permutation(self):
        for value in NONE_OF_THEM:
            with self.subTest(value=value):
                for call in (inverse, cycles, turns):
                    self.fails(InvalidPermutation, {}, call, value)
                self.fails(InvalidPermutation, {}, power, value, 1)
                self.fails(InvalidPermutation, {}, after, value, [0, 1])
                self.fails(InvalidPermutation, {}, after, [0, 1], value)
                self.fails(InvalidPermutation, {}, after, value, copy.deepcopy(value))

    def test_other_size(self):
        for first in range(1, 13):
            for second in range(1, 13):
                if first != second:
                    self.fails(OtherSize, {}, after, list(range(first)), list(range(second)))

    def test_invalid_permutation_comes_ahead_of_other_size(self):
        self.fails(InvalidPermutation, {}, after, [0, 0], [0])
        self.fails(InvalidPermutation, {}, after, [0], [0, 0])
        self.fails(InvalidPermutation, {}, after, [0], list(range(13)))

    def test_times(self):
        wrong = [10 ** 30 + 1, -10 ** 30 - 1, 10 ** 60, -10 ** 60, True, False, None, "1", "", [], [1], (), (1,), {}]
        for times in wrong:
            with self.subTest(times=times):
                self.fails(InvalidNumber, {}, power, [1, 0], times)
                self.fails(InvalidPermutation, {}, power, [1, 1], times)

    def test_times_at_the_limits(self):
        self.assertEqual(power([1, 2, 0], 10 ** 30), [1, 2, 0])
        self.assertEqual(power([1, 2, 0], -10 ** 30), [2, 0, 1])


if __name__ == "__main__":
    unittest.main()
