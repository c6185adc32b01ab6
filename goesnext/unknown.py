"""Unknown first rows: after how many accesses the past is forgotten, and what is sure before that."""

from goesnext.common import check_stream, is_integer, moved
from goesnext.partly import accesses, backs_of, check_many, told_of
from goesnext.rules import check_rule


def forgets(rule):
    """The least number of accesses to different blocks behind which only accessed blocks are left."""
    return len(forgetting(rule)) + 1


def forgetting(rule):
    """A longest history behind which a block of the first row that was not accessed is still there."""
    check_rule(rule)
    return _longest(rule, tuple(range(len(rule))), {})


def shows_forgetting(rule, value):
    """Whether any value is a history behind which such a block is still there."""
    check_rule(rule)
    if not isinstance(value, list):
        return False
    left = tuple(range(len(rule)))
    for item in value:
        if item is not None and not (is_integer(item) and item in left):
            return False
        left = _left_behind(rule, left, item)
    return len(left) > 0


def learns(rule):
    """The least number of accesses to different blocks behind which the row is sure."""
    check_rule(rule)
    k = len(rule)
    learned = list(reversed(range(k)))
    level = [[None for _ in rule]]
    many = 0
    while level != [learned]:
        level = _next_ages(rule, level)
        many += 1
    return many


def sure(rule, stream):
    """For each access "hit" or "miss" if it is so for all first rows, otherwise "open"."""
    check_rule(rule)
    check_stream(stream)
    backs = backs_of(rule)
    rows = [tuple([-1 for _ in rule])]
    known = set()
    told = []
    for block in stream:
        hits = {}
        found = {}
        for row in rows:
            for place, behind in accesses(backs, row, block, block in known):
                hits[place is not None] = True
                found[behind] = True
        check_many(len(found))
        told.append(told_of(list(hits)))
        rows = list(found)
        known.add(block)
    return told


def _left_behind(rule, left, item):
    """The ascending places of blocks that were not accessed, behind a miss, None, or a hit at one of them."""
    if item is None:
        return tuple([place - 1 for place in left if place > 0])
    moves = rule[item]
    return tuple(sorted([moves[place] for place in left if place != item]))


def _longest(rule, left, found):
    """A longest history from these places on that leaves one of them; found keeps those that are known."""
    if left not in found:
        best = []
        for item in [None, *left]:
            behind = _left_behind(rule, left, item)
            if behind:
                rest = _longest(rule, behind, found)
                if len(rest) >= len(best):
                    best = [item, *rest]
        found[left] = best
    return found[left]


def _next_ages(rule, level):
    """The different lists of ages one access further on.

    The age of a block is the number of accesses behind its own one, None if there was none. From k on
    all ages count as k: such a block is not where it would be behind misses alone, and never will be.
    """
    k = len(rule)
    found = {}
    for ages in level:
        older = [None if age is None else min(age + 1, k) for age in ages]
        missed = (*older[1:], 0)
        found[missed] = True
        for place, moves in enumerate(rule):
            if older[place] is None:
                met = moved([*older[:place], 0, *older[place + 1:]], moves)
                found[tuple(met)] = True
    return [list(ages) for ages in found]
