"""Streams that tell rules apart by their outcomes."""

from goesnext.common import accessed, check_outcomes, check_row, check_stream, is_stream, run
from goesnext.errors import InvalidRules, OtherSize
from goesnext.rules import check_rule, is_rule


def parting_stream(one, other, row):
    """A stream of at most k + 1 accesses with unlike outcomes, or None."""
    _check_pair(one, other, row)
    if one == other:
        return None
    return _parting_from(one, other, row, row)


def shortest_parting(one, other, row):
    """A stream of as few accesses as possible with unlike outcomes, or None."""
    _check_pair(one, other, row)
    seen = {_relation(row, row): True}
    level = [(row, row, [])]
    while level:
        for first, second, stream in level:
            if first[0] != second[0]:
                # The next miss takes this block out of the first row only.
                return [*stream, *_misses(first, 1), first[0]]
        level = _next_level(one, other, level, seen)
    return None


def is_parting(one, other, row, value):
    """Whether any value is a stream with unlike outcomes by the two rules."""
    _check_pair(one, other, row)
    return is_stream(value) and run(one, row, value)[0] != run(other, row, value)[0]


def tell_apart(rules, row):
    """A stream with unlike outcomes by each two unlike rules of the list."""
    _check_rules(rules)
    check_row(row, len(rules[0]))
    stream = []
    pair = _pair_left(rules, row, stream)
    while pair is not None:
        one, other = pair
        first = run(one, row, stream)[1]
        second = run(other, row, stream)[1]
        stream = [*stream, *_parting_from(one, other, first, second)]
        pair = _pair_left(rules, row, stream)
    return stream


def tells_apart(rules, row, value):
    """Whether any value is a stream with unlike outcomes by each two unlike rules."""
    _check_rules(rules)
    check_row(row, len(rules[0]))
    return is_stream(value) and _pair_left(rules, row, value) is None


def fitting(rules, row, stream, outcomes):
    """The ascending indices of the rules by which the stream has these outcomes."""
    _check_rules(rules)
    check_row(row, len(rules[0]))
    check_stream(stream)
    check_outcomes(outcomes, len(stream))
    return [index for index, rule in enumerate(rules) if run(rule, row, stream)[0] == outcomes]


def _check_pair(one, other, row):
    check_rule(one)
    check_rule(other)
    if len(one) != len(other):
        raise OtherSize("rules of unlike numbers of places")
    check_row(row, len(one))


def _check_rules(rules):
    if not isinstance(rules, list) or not rules:
        raise InvalidRules(None)
    for index, rule in enumerate(rules):
        if not is_rule(rule) or len(rule) != len(rules[0]):
            raise InvalidRules(index)


def _pair_left(rules, row, stream):
    """Two unlike rules by which the stream has equal outcomes, or None."""
    rule_with = {}
    for rule in rules:
        outcomes = tuple(run(rule, row, stream)[0])
        known = rule_with.setdefault(outcomes, rule)
        if known != rule:
            return known, rule
    return None


def _parting_from(one, other, first, second):
    """Accesses with unlike outcomes by two unlike rules, each from its own row."""
    if first != second:
        return _parting_rows(first, second)
    place = _first_unlike(one, other)
    block = first[place]
    return [block, *_parting_rows(accessed(one, first, block), accessed(other, first, block))]


def _parting_rows(first, second):
    """Accesses with unlike outcomes from two unlike rows, whatever the rules."""
    for block in first:
        if block not in second:
            return [block]
    place = _first_unlike(first, second)
    # The first row loses this block at the last of these misses; in the second one it is further up.
    return [*_misses(first, place + 1), first[place]]


def _first_unlike(first, second):
    place = 0
    while first[place] == second[place]:
        place += 1
    return place


def _misses(row, many):
    """So many different blocks that are not in the row."""
    found = []
    block = 0
    while len(found) < many:
        if block not in row:
            found.append(block)
        block += 1
    return found


def _next_level(one, other, level, seen):
    """The pairs of rows one access further on whose relation is not seen yet.

    Both rows of a pair in the level have the same blocks, at place 0 the same one.
    """
    behind = []
    for first, second, stream in level:
        for block in [*first, *_misses(first, 1)]:
            here = accessed(one, first, block)
            there = accessed(other, second, block)
            relation = _relation(here, there)
            if relation not in seen:
                seen[relation] = True
                behind.append((here, there, [*stream, block]))
    return behind


def _relation(first, second):
    """Where the blocks of the first row are in the second: all that later accesses depend on."""
    return tuple([second.index(block) for block in first])
