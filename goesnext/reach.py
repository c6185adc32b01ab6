"""Reach: the rows that hits alone can make of a row."""

from goesnext.common import check_row, is_block, is_stream, moved, run
from goesnext.errors import InvalidRow
from goesnext.groups import is_member, next_level, word_for
from goesnext.rules import check_rule


def can_reach(rule, row, goal):
    """Whether hits alone lead from the row to the goal."""
    _check(rule, row, goal)
    return is_member(rule, _moves_between(row, goal))


def hits_to(rule, row, goal):
    """As few blocks as possible whose accesses lead from the row to the goal by hits, or None."""
    _check(rule, row, goal)
    places = word_for(rule, _moves_between(row, goal))
    if places is None:
        return None
    way = []
    now = row
    for place in places:
        way.append(now[place])
        now = moved(now, rule[place])
    return way


def is_way(rule, row, goal, value):
    """Whether any value is a stream of hits that leads from the row to the goal."""
    _check(rule, row, goal)
    if not is_stream(value):
        return False
    outcomes, behind = run(rule, row, value)
    return all(outcomes) and behind == goal


def far_rows(rule):
    """The numbers of rows to which 0, 1, 2 .. hits are needed."""
    check_rule(rule)
    start = tuple(range(len(rule)))
    steps = {start: None}
    level = [start]
    many = []
    while level:
        many.append(len(level))
        level = next_level(rule, level, steps)
    return many


def _check(rule, row, goal):
    check_rule(rule)
    check_row(row, len(rule))
    if not isinstance(goal, list) or len(goal) != len(row):
        raise InvalidRow(None)
    for index, item in enumerate(goal):
        # True is equal to 1, so being in the row is not enough.
        if not is_block(item) or item not in row or item in goal[:index]:
            raise InvalidRow(index)


def _moves_between(row, goal):
    """The permutation that takes the places of the row's blocks to those in the goal."""
    return [goal.index(block) for block in row]
