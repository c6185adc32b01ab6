"""What several modules share: blocks, rows, streams, and the accesses of a rule."""

from goesnext.errors import InvalidBlock, InvalidOutcomes, InvalidRow, InvalidStream


def is_integer(value):
    """Whether any value is an integer; booleans are none."""
    return isinstance(value, int) and not isinstance(value, bool)


def is_index(value, many):
    """Whether any value is an integer from 0 to many - 1."""
    return is_integer(value) and 0 <= value < many


def is_block(value):
    """Whether any value is a block."""
    return is_integer(value) and 0 <= value <= 10 ** 9


def is_stream(value):
    """Whether any value is a stream; no length is too long."""
    return isinstance(value, list) and all([is_block(item) for item in value])


def check_block(block):
    """Raise InvalidBlock unless block is a block."""
    if not is_block(block):
        raise InvalidBlock("not an integer from 0 to 10 ** 9")


def is_row(value, k):
    """Whether any value is a row of k places."""
    return isinstance(value, list) and len(value) == k and _first_wrong(value) is None


def check_row(row, k):
    """Raise InvalidRow unless row is a row of k places."""
    if not isinstance(row, list) or len(row) != k:
        raise InvalidRow(None)
    wrong = _first_wrong(row)
    if wrong is not None:
        raise InvalidRow(wrong)


def _first_wrong(row):
    """The index of the first item that is no block or stands before, or None."""
    for index, item in enumerate(row):
        if not is_block(item) or item in row[:index]:
            return index
    return None


def check_stream(stream):
    """Raise InvalidStream unless stream is a stream."""
    if not isinstance(stream, list):
        raise InvalidStream(None)
    for index, item in enumerate(stream):
        if not is_block(item):
            raise InvalidStream(index)


def check_outcomes(outcomes, many):
    """Raise InvalidOutcomes unless outcomes is a list of so many booleans."""
    if not isinstance(outcomes, list) or len(outcomes) != many:
        raise InvalidOutcomes(f"not a list of {many} booleans")
    if not all([isinstance(item, bool) for item in outcomes]):
        raise InvalidOutcomes("an outcome is no boolean")


def moved(row, moves):
    """The row behind these moves of its places, a new list."""
    behind = list(row)
    for place, item in enumerate(row):
        behind[moves[place]] = item
    return behind


def accessed(rule, row, block):
    """The row behind one access to the block, a new list."""
    if block not in row:
        return [*row[1:], block]
    return moved(row, rule[row.index(block)])


def run(rule, row, stream):
    """The outcomes of the stream and the row behind it, two new lists."""
    outcomes = []
    behind = list(row)
    for block in stream:
        outcomes.append(block in behind)
        behind = accessed(rule, behind, block)
    return outcomes, behind
