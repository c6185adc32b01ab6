"""Groups: all permutations that some permutations make, one after another, any number of times."""

from goesnext.errors import InvalidPermutations, OtherSize, TooMany
from goesnext.permutations import check_permutation, inverse, is_permutation
from goesnext.rules import check_rule

_MOST_MEMBERS = 2000


def group_order(permutations):
    """The number of permutations in the group."""
    _check_permutations(permutations)
    return _order(_chain(permutations))


def is_member(permutations, one):
    """Whether one is in the group."""
    _check_with_one(permutations, one)
    return _is_made(_chain(permutations), one)


def members(permutations):
    """The ascending list of the permutations in the group."""
    _check_permutations(permutations)
    chain = _chain(permutations)
    if _order(chain) > _MOST_MEMBERS:
        raise TooMany(_MOST_MEMBERS)
    made = [list(range(len(chain)))]
    for backs in chain:
        made = [[back[item] for item in one] for one in made for back in backs.values()]
    return sorted(made)


def chain_lengths(permutations):
    """For each m the number of items to which m is taken by the members that leave 0 to m - 1."""
    _check_permutations(permutations)
    return [len(backs) for backs in _chain(permutations)]


def word_for(permutations, one):
    """The indices of as few permutations as possible that make one, or None."""
    _check_with_one(permutations, one)
    if not _is_made(_chain(permutations), one):
        return None
    goal = tuple(one)
    start = tuple(range(len(one)))
    steps = {start: None}
    level = [start]
    while goal not in steps:
        level = next_level(permutations, level, steps)
    return _word_to(goal, steps)


def next_level(permutations, level, steps):
    """The new ones that are made one permutation further on; steps gets the way to each."""
    behind = []
    for one in level:
        for index, by in enumerate(permutations):
            made = tuple([by[item] for item in one])
            if made not in steps:
                steps[made] = (one, index)
                behind.append(made)
    return behind


def states_needed(rule):
    """How many states a machine with the rule needs."""
    check_rule(rule)
    last = len(rule) - 1
    # What a miss does to the places, if the new block is taken for the one that goes.
    return group_order([*rule, [last, *list(range(last))]])


def rows_by_hits(rule):
    """How many rows hits alone can make of a row."""
    check_rule(rule)
    return group_order(rule)


def _check_permutations(permutations):
    if not isinstance(permutations, list) or not permutations:
        raise InvalidPermutations(None)
    for index, item in enumerate(permutations):
        if not is_permutation(item) or len(item) != len(permutations[0]):
            raise InvalidPermutations(index)


def _check_with_one(permutations, one):
    _check_permutations(permutations)
    check_permutation(one)
    if len(one) != len(permutations[0]):
        raise OtherSize("permutations of unlike numbers of items")


def _chain(permutations):
    """For each m a dict: for each item to which m can go, 0 to m - 1 left alone, one that takes it back."""
    size = len(permutations[0])
    chain = [{m: list(range(size))} for m in range(size)]
    found = []
    for one in permutations:
        _take_in(chain, found, one)
    at = 0
    # The chain has the whole group as soon as it has the products of each two found ones.
    while at < len(found):
        one = found[at]
        ready = found[:at + 1]
        for other in ready:
            _take_in(chain, found, [other[item] for item in one])
            _take_in(chain, found, [one[item] for item in other])
        at += 1
    return chain


def _take_in(chain, found, one):
    """Let the chain have one; what was lacking for it is added to the found ones, too."""
    m, left = _left_of(chain, one)
    if m < len(chain):
        chain[m][left[m]] = inverse(left)
        found.append(left)


def _left_of(chain, one):
    """The first m that the chain cannot take back, and what is left of one then."""
    left = one
    for m, backs in enumerate(chain):
        if left[m] not in backs:
            return m, left
        if left[m] != m:
            back = backs[left[m]]
            left = [back[item] for item in left]
    return len(chain), left


def _is_made(chain, one):
    return _left_of(chain, one)[0] == len(chain)


def _order(chain):
    many = 1
    for backs in chain:
        many *= len(backs)
    return many


def _word_to(goal, steps):
    word = []
    step = steps[goal]
    while step is not None:
        before, index = step
        word.append(index)
        step = steps[before]
    return word[::-1]
