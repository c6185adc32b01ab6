"""Rounds: streams that begin anew whenever they have ended."""

from goesnext.common import check_row, check_stream, is_index, run
from goesnext.errors import InvalidNumber, TooMany
from goesnext.rules import check_rule

_MOST_ROUNDS = 1000


def hits_in(rule, row, stream, times):
    """The number of hits if the stream is gone round so many times."""
    _check(rule, row, stream)
    _check_times(times)
    rows, hits, first = _rounds(rule, row, stream)
    if times < first:
        return sum(hits[:times])
    periods, rest = divmod(times - first, len(rows) - first)
    return sum(hits[:first + rest]) + periods * sum(hits[first:])


def row_after(rule, row, stream, times):
    """The row behind so many rounds."""
    _check(rule, row, stream)
    _check_times(times)
    rows, _, first = _rounds(rule, row, stream)
    if times < first:
        return rows[times]
    return rows[first + (times - first) % (len(rows) - first)]


def period_of(rule, row, stream):
    """The tuple of the rounds ahead of the first row that comes round, and of the rounds until it does."""
    _check(rule, row, stream)
    rows, _, first = _rounds(rule, row, stream)
    return first, len(rows) - first


def _check(rule, row, stream):
    check_rule(rule)
    check_row(row, len(rule))
    check_stream(stream)


def _check_times(times):
    if not is_index(times, 10 ** 18 + 1):
        raise InvalidNumber("times is not an integer from 0 to 10 ** 18")


def _rounds(rule, row, stream):
    """The different rows behind 0, 1 .. rounds, the hits of the rounds from them on, and which row comes round."""
    rows = []
    hits = []
    number_of = {}
    now = list(row)
    while tuple(now) not in number_of:
        if len(rows) == _MOST_ROUNDS:
            raise TooMany(_MOST_ROUNDS)
        number_of[tuple(now)] = len(rows)
        rows.append(now)
        outcomes, now = run(rule, now, stream)
        hits.append(sum(outcomes))
    return rows, hits, number_of[tuple(now)]
