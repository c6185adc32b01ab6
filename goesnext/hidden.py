"""Hidden caches: a rule that is known by outcomes only, and how it is read."""

from goesnext.common import check_stream, run
from goesnext.rules import check_rule

_MOST_PLACES = 12


class Hidden:
    """A cache with a rule whose first row is not told."""

    def __init__(self, rule):
        check_rule(rule)
        self._rule = [list(moves) for moves in rule]
        self._asks = 0

    def ask(self, stream):
        """The outcomes of the stream, always from the same first row."""
        check_stream(stream)
        self._asks += 1
        # Numbers below 0 are no blocks, so no stream can have one of these.
        first = [-1 - place for place in range(len(self._rule))]
        return run(self._rule, first, stream)[0]

    @property
    def asks(self):
        """How often ask was called without an error."""
        return self._asks


def read_rule(hidden):
    """The rule of a Hidden, found by ask alone."""
    k = _places_of(hidden)
    return [[_place_behind(hidden, k, i, j) for j in range(k)] for i in range(k)]


def _places_of(hidden):
    """The number of places: the greatest number of different blocks behind which the first one is left."""
    k = 2
    while k < _MOST_PLACES and _is_left(hidden, list(range(k + 1)), 0):
        k += 1
    return k


def _place_behind(hidden, k, hit, place):
    """The place to which a hit takes the block at this place, by halves."""
    low = 0
    high = k - 1
    while low < high:
        middle = (low + high + 1) // 2
        # Behind k misses block p is at place p. It is left behind as many more misses as its place tells.
        if _is_left(hidden, [*list(range(k)), hit, *list(range(k, k + middle))], place):
            low = middle
        else:
            high = middle - 1
    return low


def _is_left(hidden, stream, block):
    """Whether the block is in the row behind the stream."""
    return hidden.ask([*stream, block])[-1]
