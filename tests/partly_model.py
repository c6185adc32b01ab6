"""What the tests of unknown first rows share: the runs from all first rows, and rows and records near the limits."""

import itertools

from model import ran

# Rules and streams, with the greatest number of different partly known rows behind an access.
LOW_SURE = [
    ([[4, 5, 2, 1, 6, 3, 0], [2, 5, 3, 1, 0, 6, 4], [1, 0, 3, 4, 2, 5, 6], [0, 6, 5, 4, 3, 2, 1],
      [0, 2, 1, 6, 3, 5, 4], [3, 1, 6, 0, 4, 2, 5], [3, 4, 1, 6, 5, 0, 2]], [0, 1, 2, 3, 4, 5], 5000),
    ([[5, 3, 0, 4, 2, 6, 1], [2, 5, 0, 1, 4, 6, 3], [5, 2, 6, 0, 3, 1, 4], [6, 0, 4, 2, 5, 1, 3],
      [1, 4, 2, 5, 0, 6, 3], [2, 5, 1, 4, 6, 3, 0], [4, 3, 0, 6, 5, 1, 2]], [0, 1, 2, 3, 4, 5], 5000),
]
HIGH_SURE = [
    ([[6, 2, 3, 5, 0, 1, 4], [3, 1, 6, 2, 4, 0, 5], [5, 3, 2, 6, 4, 1, 0], [5, 6, 3, 0, 1, 4, 2],
      [5, 2, 1, 4, 6, 3, 0], [1, 3, 6, 0, 5, 4, 2], [1, 0, 3, 6, 5, 4, 2]], [0, 1, 2, 3, 4, 5], 5001),
    ([[0, 3, 4, 2, 6, 1, 5], [4, 3, 1, 0, 5, 2, 6], [2, 1, 3, 6, 5, 0, 4], [5, 6, 3, 4, 1, 2, 0],
      [2, 5, 3, 0, 1, 6, 4], [1, 3, 2, 5, 6, 4, 0], [3, 4, 0, 1, 2, 5, 6]], [0, 1, 2, 3, 4, 5], 5001),
]
# Rules, streams and outcomes, with the greatest number of first rows that fit behind an access.
LOW_RECORDS = [
    ([[6, 0, 7, 3, 5, 1, 4, 2], [4, 5, 7, 0, 6, 3, 2, 1], [5, 1, 3, 0, 4, 7, 6, 2], [3, 6, 2, 0, 1, 4, 7, 5],
      [5, 3, 2, 0, 6, 4, 7, 1], [3, 2, 1, 6, 0, 7, 4, 5], [5, 2, 4, 7, 3, 1, 6, 0], [6, 7, 3, 0, 4, 5, 2, 1]],
     [0, 1, 2, 3, 4, 5], [True, True, True, False, True, True], 5000),
    ([[5, 0, 4, 7, 3, 1, 2, 6], [7, 0, 1, 5, 2, 3, 6, 4], [3, 1, 2, 7, 5, 4, 6, 0], [1, 5, 7, 4, 6, 2, 0, 3],
      [5, 0, 4, 2, 3, 7, 6, 1], [7, 5, 0, 1, 2, 6, 3, 4], [1, 5, 7, 6, 4, 2, 3, 0], [4, 3, 0, 1, 7, 6, 2, 5]],
     [0, 1, 2, 3, 4, 5, 6], [True, True, True, False, True, True, False], 5000),
]
HIGH_RECORDS = [
    ([[7, 8, 0, 4, 1, 9, 2, 3, 5, 6, 10], [3, 2, 9, 5, 7, 4, 8, 0, 10, 1, 6], [6, 2, 1, 7, 4, 9, 10, 5, 8, 3, 0],
      [7, 1, 10, 3, 2, 6, 0, 9, 4, 8, 5], [5, 0, 6, 2, 4, 7, 3, 9, 1, 8, 10], [9, 10, 6, 0, 5, 3, 1, 4, 7, 8, 2],
      [5, 1, 4, 9, 6, 0, 8, 7, 3, 10, 2], [4, 8, 5, 7, 0, 6, 2, 1, 9, 3, 10], [6, 5, 1, 3, 8, 9, 7, 0, 2, 4, 10],
      [1, 5, 4, 3, 9, 0, 6, 10, 7, 8, 2], [6, 9, 4, 3, 2, 1, 5, 10, 0, 8, 7]],
     [0, 1, 2, 3, 4, 5, 5, 2], [True, False, True, True, False, True, True, True], 5001),
]


def pools(stream, k):
    """The blocks of the stream, and as many others as a row has places."""
    return sorted(set(stream)) + [f"stranger {at}" for at in range(k)]


def place_moved(rule, row, place):
    behind = [None] * len(row)
    for j, block in enumerate(row):
        behind[rule[place][j]] = block
    return tuple(behind)


def behind_access(rule, row, block, met):
    """What an access can be from a partly known row: pairs of whether it is a hit, and the row behind."""
    if block in met and block in row:
        return [(True, place_moved(rule, row, row.index(block)))]
    found = [(False, row[1:] + (block,))]
    if block not in met:
        for place, item in enumerate(row):
            if item is None:
                found.append((True, place_moved(rule, row[:place] + (block,) + row[place + 1:], place)))
    return found


def partly_known(rule, stream):
    """What is sure of each access, and the greatest number of partly known rows behind one."""
    rows = {(None,) * len(rule)}
    told, most = [], 0
    for at, block in enumerate(stream):
        behind = [one for row in rows for one in behind_access(rule, row, block, stream[:at])]
        kinds = {hit for hit, _ in behind}
        told.append("open" if len(kinds) == 2 else "hit" if True in kinds else "miss")
        rows = {row for _, row in behind}
        most = max(most, len(rows))
        if most > 5000:
            break
    return told, most


def with_minus_one(row):
    return [-1 if item is None else item for item in row]


def in_sequence(rows):
    """These rows, each once, ascending as if None were -1."""
    return sorted([list(row) for row in set(rows)], key=with_minus_one)


def fits_of_runs(rule, stream, outcomes, more=()):
    """The first rows that fit, the rows left, and what the next accesses can be, by the runs from all first rows."""
    k = len(rule)
    first, left, later = set(), set(), {block: set() for block in more}
    for row in itertools.permutations(pools([*stream, *more], k), k):
        cache = ran(rule, row, stream)
        if cache.outcomes != outcomes:
            continue
        first.add(tuple(item if item in stream and outcomes[stream.index(item)] else None for item in row))
        left.add(tuple(item if item in stream else None for item in cache.row()))
        for block in more:
            later[block].add(block in cache.places)
    return in_sequence(first), in_sequence(left), later


def fits_of_records(rule, stream, outcomes):
    """The first rows that fit the beginnings of a record, one list of them behind each access.

    Each one has for each place the block that stood there at first, or None.
    """
    k = len(rule)
    fits = [((None,) * k, tuple((place,) for place in range(k)))]
    told = []
    for at, block in enumerate(stream):
        behind = []
        for first, now in fits:
            # In the row now a tuple with its place at first stands for a block that was not accessed.
            if block in now or block in stream[:at]:
                if (block in now) == outcomes[at]:
                    row = place_moved(rule, now, now.index(block)) if outcomes[at] else now[1:] + (block,)
                    behind.append((first, row))
            elif not outcomes[at]:
                behind.append((first, now[1:] + (block,)))
            else:
                for place, item in enumerate(now):
                    if isinstance(item, tuple):
                        begun = first[:item[0]] + (block,) + first[item[0] + 1:]
                        met = now[:place] + (block,) + now[place + 1:]
                        behind.append((begun, place_moved(rule, met, place)))
        fits = behind
        told.append([first for first, _ in fits])
        if len(fits) > 5000:
            break
    return told
