"""Rules: for each place of a row the permutation that a hit there makes."""

from goesnext.common import is_integer
from goesnext.errors import InvalidNumber, InvalidRule
from goesnext.permutations import is_permutation


def is_rule(value):
    """Whether any value is a rule."""
    if not isinstance(value, list) or not 2 <= len(value) <= 12:
        return False
    return all([_has_size(item, len(value)) for item in value])


def _has_size(value, k):
    return is_permutation(value) and len(value) == k


def check_rule(rule):
    """Raise InvalidRule unless rule is a rule."""
    if not isinstance(rule, list) or not 2 <= len(rule) <= 12:
        raise InvalidRule(None)
    for index, item in enumerate(rule):
        if not _has_size(item, len(rule)):
            raise InvalidRule(index)


def _check_k(k):
    if not is_integer(k) or not 2 <= k <= 12:
        raise InvalidNumber("k is not an integer from 2 to 12")


def first_in(k):
    """The rule by which a hit changes nothing."""
    _check_k(k)
    return raised(list(range(k)))


def last_used(k):
    """The rule by which a hit takes the block to the last place."""
    _check_k(k)
    return raised([k - 1 for _ in range(k)])


def climbing(k):
    """The rule by which a hit takes the block one place up."""
    _check_k(k)
    return raised([min(place + 1, k - 1) for place in range(k)])


def raised(targets):
    """The rule by which a hit at place i takes the block up to place targets[i]."""
    if not _are_targets(targets):
        raise InvalidNumber("targets is not a list of 2 to 12 places, none below its index")
    k = len(targets)
    return [[_place_raised(j, i, target) for j in range(k)] for i, target in enumerate(targets)]


def _are_targets(value):
    if not isinstance(value, list) or not 2 <= len(value) <= 12:
        return False
    return all([is_integer(item) and place <= item < len(value) for place, item in enumerate(value)])


def _place_raised(place, hit, target):
    if place == hit:
        return target
    if hit < place <= target:
        return place - 1
    return place


def tree(k):
    """The rule of a tree of bits for 2, 4 or 8 lines."""
    if not is_integer(k) or k not in (2, 4, 8):
        raise InvalidNumber("k is not 2, 4 or 8")
    return [[_place_in_tree(j, i, k) for j in range(k)] for i in range(k)]


def _place_in_tree(place, hit, k):
    if place == hit:
        return k - 1
    unlike = place ^ hit
    lowest = unlike & -unlike
    # All bits up to the lowest unlike one are set; then that one is taken away.
    return (place | (2 * lowest - 1)) - lowest
