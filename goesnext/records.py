"""Records: which first rows fit the outcomes of a stream, and what they tell of the next access."""

from goesnext.common import check_block, check_outcomes, check_stream
from goesnext.partly import accesses, backs_of, check_many, told_of
from goesnext.rules import check_rule


def first_rows(rule, stream, outcomes):
    """The ascending list of the first rows that fit."""
    _check(rule, stream, outcomes)
    rows = sorted([first for first, _ in _fits(rule, stream, outcomes)])
    return [_with_none(row) for row in rows]


def is_possible(rule, stream, outcomes):
    """Whether any first row fits."""
    _check(rule, stream, outcomes)
    return len(_fits(rule, stream, outcomes)) > 0


def rows_left(rule, stream, outcomes):
    """The ascending list of the different partly known rows behind the stream."""
    _check(rule, stream, outcomes)
    return [_with_none(row) for row in _rows_left(rule, stream, outcomes)]


def next_one(rule, stream, outcomes, block):
    """What an access to the block behind the stream is: "hit", "miss" or "open"; None if no first row fits."""
    _check(rule, stream, outcomes)
    check_block(block)
    backs = backs_of(rule)
    known = block in stream
    rows = _rows_left(rule, stream, outcomes)
    return told_of([place is not None for row in rows for place, _ in accesses(backs, row, block, known)])


def _check(rule, stream, outcomes):
    check_rule(rule)
    check_stream(stream)
    check_outcomes(outcomes, len(stream))


def _with_none(row):
    return [None if item < 0 else item for item in row]


def _rows_left(rule, stream, outcomes):
    return sorted({tuple([max(item, -1) for item in now]) for _, now in _fits(rule, stream, outcomes)})


def _fits(rule, stream, outcomes):
    """For each first row that fits the pair of it, with -1 for None, and the row behind the stream.

    In the row behind, -1 - p stands for the block that was at place p at first and was not accessed.
    """
    backs = backs_of(rule)
    fits = [(tuple([-1 for _ in rule]), tuple([-1 - place for place in range(len(rule))]))]
    known = set()
    for block, hit in zip(stream, outcomes):
        found = []
        for first, now in fits:
            for place, behind in accesses(backs, now, block, block in known):
                if (place is not None) == hit:
                    found.append((_first_with(first, now, block, place), behind))
        check_many(len(found))
        fits = found
        known.add(block)
    return fits


def _first_with(first, now, block, place):
    """The first row, in which the block stands where the one came from that is at this place now."""
    if place is None or now[place] >= 0:
        return first
    origin = -1 - now[place]
    return (*first[:origin], block, *first[origin + 1:])
