"""Permutations: lists that have each integer from 0 to their length less 1 once."""

from math import lcm

from goesnext.common import is_integer
from goesnext.errors import InvalidNumber, InvalidPermutation, OtherSize


def is_permutation(value):
    """Whether any value is a permutation."""
    if not isinstance(value, list) or not 1 <= len(value) <= 12:
        return False
    if not all([is_integer(item) for item in value]):
        return False
    return sorted(value) == list(range(len(value)))


def check_permutation(value):
    """Raise InvalidPermutation unless value is a permutation."""
    if not is_permutation(value):
        raise InvalidPermutation("not a permutation")


def after(first, second):
    """The permutation that makes first, then second."""
    check_permutation(first)
    check_permutation(second)
    if len(first) != len(second):
        raise OtherSize("permutations of unlike numbers of items")
    return [second[item] for item in first]


def inverse(one):
    """The permutation that takes back one."""
    check_permutation(one)
    back = list(one)
    for place, item in enumerate(one):
        back[item] = place
    return back


def cycles(one):
    """The ascending list of the cycles, each from its least item on."""
    check_permutation(one)
    found = []
    seen = set()
    for start in range(len(one)):
        if start in seen:
            continue
        cycle = _cycle_from(one, start)
        found.append(cycle)
        for item in cycle:
            seen.add(item)
    return found


def _cycle_from(one, start):
    cycle = [start]
    item = one[start]
    while item != start:
        cycle.append(item)
        item = one[item]
    return cycle


def turns(one):
    """The least number of times from 1 on that make the identity."""
    many = 1
    for cycle in cycles(one):
        many = lcm(many, len(cycle))
    return many


def power(one, times):
    """The permutation made so many times; below 0 its inverse."""
    check_permutation(one)
    if not is_integer(times) or not -10 ** 30 <= times <= 10 ** 30:
        raise InvalidNumber("times is not an integer from -10 ** 30 to 10 ** 30")
    made = list(one)
    for cycle in cycles(one):
        for at, item in enumerate(cycle):
            # A turn of the cycle is exact for any number of times, also below 0.
            made[item] = cycle[(at + times) % len(cycle)]
    return made
