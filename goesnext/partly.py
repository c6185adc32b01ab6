"""Partly known rows, as tuples: a number below 0 stands for a block that was there at first and not accessed."""

from goesnext.errors import TooMany
from goesnext.permutations import inverse

_MOST = 5000


def backs_of(rule):
    """For each place of a hit the list that has for each place behind it the place ahead of it."""
    return [inverse(moves) for moves in rule]


def accesses(backs, row, block, known):
    """What an access can be: pairs of the place of a hit, None for a miss, and the row behind it.

    A block that is not known was not accessed before, so it may be each one of those at first.
    """
    if block in row:
        place = row.index(block)
        return [(place, _hit(backs, row, place))]
    found = [(None, (*row[1:], block))]
    if not known:
        for place, item in enumerate(row):
            if item < 0:
                met = (*row[:place], block, *row[place + 1:])
                found.append((place, _hit(backs, met, place)))
    return found


def _hit(backs, row, place):
    return tuple([row[item] for item in backs[place]])


def told_of(hits):
    """What is sure of an access if it is a hit in these cases, one boolean each; None if there are none."""
    if not hits:
        return None
    if all(hits):
        return "hit"
    if any(hits):
        return "open"
    return "miss"


def check_many(many):
    """Raise TooMany if there are more rows than may be."""
    if many > _MOST:
        raise TooMany(_MOST)
