"""Runs: what the accesses of a stream do to the row and the lines of a cache."""

from goesnext.common import accessed, check_row, check_stream, run
from goesnext.rules import check_rule


def outcomes_of(rule, row, stream):
    """The list of True for each hit and False for each miss."""
    _check(rule, row, stream)
    return run(rule, row, stream)[0]


def row_behind(rule, row, stream):
    """The row behind the stream."""
    _check(rule, row, stream)
    return run(rule, row, stream)[1]


def gone(rule, row, stream):
    """The list of the blocks that go, in their order."""
    _check(rule, row, stream)
    return [old for old, _ in _exchanges(rule, row, stream)]


def lines_behind(rule, row, stream):
    """The list of the blocks in the lines behind the stream."""
    _check(rule, row, stream)
    lines = list(row)
    for old, new in _exchanges(rule, row, stream):
        lines[lines.index(old)] = new
    return lines


def _check(rule, row, stream):
    check_rule(rule)
    check_row(row, len(rule))
    check_stream(stream)


def _exchanges(rule, row, stream):
    """For each miss the block that goes and the new one."""
    found = []
    now = row
    for block in stream:
        if block not in now:
            found.append((now[0], block))
        now = accessed(rule, now, block)
    return found
