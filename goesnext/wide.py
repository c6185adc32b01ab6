"""Wide rules: any place may be the one that goes, and a miss moves the blocks by any permutation."""

from goesnext.common import check_row, check_stream, is_index, moved
from goesnext.errors import InvalidWide, NotWhole, OtherSize
from goesnext.permutations import check_permutation, inverse, is_permutation
from goesnext.rules import check_rule, is_rule


def is_wide(value):
    """Whether any value is a wide rule."""
    if not isinstance(value, tuple) or len(value) != 3:
        return False
    moves, miss, out = value
    # The moves have the form of a rule: k permutations of k items.
    if not is_rule(moves) or not is_permutation(miss):
        return False
    return len(miss) == len(moves) and is_index(out, len(moves))


def stuck_places(wide):
    """The ascending list of the places whose blocks do not go by misses alone."""
    _check_wide(wide)
    way = _way_out(wide)
    return [place for place in range(len(wide[1])) if place not in way]


def numbers(wide):
    """For each place how many misses there are ahead of the one at which its block goes."""
    places = stuck_places(wide)
    if places:
        raise NotWhole(places)
    way = _way_out(wide)
    ahead = list(way)
    for at, place in enumerate(way):
        ahead[place] = len(way) - 1 - at
    return ahead


def normal(wide):
    """The rule that the wide rule is."""
    number_at = numbers(wide)
    moves = wide[0]
    # A block is at place number_at[p] of the rule where it is at place p of the wide one.
    place_of = inverse(number_at)
    return [[number_at[moves[i][j]] for j in place_of] for i in place_of]


def wide_of(rule, numbers):
    """The wide rule with these numbers that is the rule."""
    check_rule(rule)
    check_permutation(numbers)
    if len(numbers) != len(rule):
        raise OtherSize("a rule and numbers of unlike numbers of places")
    place_of = inverse(numbers)
    moves = [[place_of[rule[i][j]] for j in numbers] for i in numbers]
    # Number 0 gives the index -1, the last place: there a new block begins.
    miss = [place_of[number - 1] for number in numbers]
    return moves, miss, place_of[0]


def wide_outcomes(wide, row, stream):
    """The outcomes of the stream; item p of the row is the block at place p."""
    _check_wide(wide)
    check_row(row, len(wide[1]))
    check_stream(stream)
    moves, miss, out = wide
    now = list(row)
    outcomes = []
    for block in stream:
        hit = block in now
        outcomes.append(hit)
        if hit:
            now = moved(now, moves[now.index(block)])
        else:
            # The new block moves as if it had been at the place of the one that goes.
            now[out] = block
            now = moved(now, miss)
    return outcomes


def wide_alike(one, other):
    """Whether two whole wide rules are the same rule."""
    _check_wide(one)
    _check_wide(other)
    if len(one[1]) != len(other[1]):
        raise OtherSize("wide rules of unlike numbers of places")
    return normal(one) == normal(other)


def _check_wide(wide):
    if not is_wide(wide):
        raise InvalidWide("not a wide rule")


def _way_out(wide):
    """The places that a new block has behind one miss after another until it goes."""
    _, miss, out = wide
    way = [miss[out]]
    while way[-1] != out:
        way.append(miss[way[-1]])
    return way
