"""Keeping: after how many accesses to others a block goes, and how often it must be accessed to stay."""

from goesnext.common import is_index
from goesnext.errors import InvalidNumber
from goesnext.rules import check_rule

_OWN = "own"
_GONE = -1
_MOST_GAP = 100


def life(rule, place):
    """The fewest accesses to other blocks behind which the block at the place has gone."""
    return len(way_out(rule, place))


def way_out(rule, place):
    """A way out of the place with as few items as possible."""
    check_rule(rule)
    _check_place(rule, place)
    # By misses alone the block goes within k accesses, so this gap leaves nothing out.
    return _shortest_way(rule, place, len(rule), False)


def is_way_out(rule, place, value):
    """Whether any value is a way out of the place."""
    check_rule(rule)
    _check_place(rule, place)
    return _leads_out(rule, place, value) and _OWN not in value


def keeps(rule):
    """The greatest number of others that may be accessed between a block's own accesses so that it never goes."""
    check_rule(rule)
    gap = 0
    while _lost_way(rule, gap + 1) is None:
        gap += 1
    return gap


def lost_way(rule, gap):
    """A lost way with at most gap other accesses one after another, or None."""
    check_rule(rule)
    _check_gap(gap)
    return _lost_way(rule, gap)


def is_lost_way(rule, gap, value):
    """Whether any value is a lost way with at most gap other accesses one after another."""
    check_rule(rule)
    _check_gap(gap)
    return _leads_out(rule, len(rule) - 1, value) and _widest_gap(value) <= gap


def _check_place(rule, place):
    if not is_index(place, len(rule)):
        raise InvalidNumber("place is not a place of the rule")


def _check_gap(gap):
    if not is_index(gap, _MOST_GAP + 1):
        raise InvalidNumber("gap is not an integer from 0 to 100")


def _lost_way(rule, gap):
    return _shortest_way(rule, len(rule) - 1, gap, True)


def _shortest_way(rule, place, gap, with_own):
    """As few items as possible behind which the block from this place has gone, or None.

    At most gap other accesses stand one after another; the block's own ones may part them.
    """
    start = (place, 0)
    ways = {start: []}
    level = [start]
    while level:
        behind = []
        for state in level:
            for item, there in _steps(rule, state, gap, with_own):
                if there[0] == _GONE:
                    return [*ways[state], item]
                if there not in ways:
                    ways[there] = [*ways[state], item]
                    behind.append(there)
        level = behind
    return None


def _steps(rule, state, gap, with_own):
    """The items that may come next, each with the state behind: the place and the others since an own access."""
    place, many = state
    found = []
    if many < gap:
        others = [item for item in range(len(rule)) if item != place]
        found = [(item, (_behind(rule, place, item), many + 1)) for item in [None, *others]]
    if with_own:
        found.append((_OWN, (_behind(rule, place, _OWN), 0)))
    return found


def _behind(rule, place, item):
    """The place of the block behind an access."""
    if item is None:
        return place - 1
    if item == _OWN:
        return rule[place][place]
    return rule[item][place]


def _leads_out(rule, place, value):
    """Whether any value is a list of accesses behind whose last one the block has gone, and not ahead of it."""
    if not isinstance(value, list):
        return False
    here = place
    for item in value:
        if here == _GONE or not _may_stand(rule, here, item):
            return False
        here = _behind(rule, here, item)
    return here == _GONE


def _may_stand(rule, place, item):
    return item is None or item == _OWN or (is_index(item, len(rule)) and item != place)


def _widest_gap(items):
    """The greatest number of accesses to others one after another."""
    widest = 0
    many = 0
    for item in items:
        many = 0 if item == _OWN else many + 1
        widest = max(widest, many)
    return widest
