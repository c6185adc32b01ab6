"""Tables: machines that are given by their states, and the rules that they have."""

from goesnext.common import is_index, is_integer, moved
from goesnext.errors import InvalidNumber, InvalidTable, OtherSize, TooMany
from goesnext.groups import states_needed
from goesnext.rules import check_rule

_MOST_STATES = 200


def is_table(value):
    """Whether any value is a table; no number of states is too great."""
    return isinstance(value, list) and len(value) > 0 and _first_wrong(value) is None


def check_table(table):
    """Raise InvalidTable unless table is a table."""
    if not isinstance(table, list) or not table:
        raise InvalidTable(None)
    wrong = _first_wrong(table)
    if wrong is not None:
        raise InvalidTable(wrong)


def order_at(table, state):
    """The order of a state: the lines that go at k misses, one after another."""
    _check_from(table, state)
    return _order(table, state)


def rule_of(table, state):
    """The rule that the table has from the state on, or None."""
    _check_from(table, state)
    if _reason(table, state) is not None:
        return None
    return [_moves(table, state, place) for place in range(_lines(table))]


def why_not(table, state):
    """None if the table has a rule from the state on, otherwise a tuple that shows that it has none."""
    _check_from(table, state)
    return _reason(table, state)


def shows_not(table, state, value):
    """Whether any value is a tuple that shows that the table has no rule from the state on."""
    _check_from(table, state)
    if not isinstance(value, tuple):
        return False
    coming = _coming_up(table, state)
    if len(value) == 2 and value[0] == "order":
        return _is_one_of(value[1], coming) and _lacks_a_line(_order(table, value[1]))
    if len(value) == 4 and value[0] == "moves":
        return _are_unlike_moves(table, coming, value)
    return False


def needed_states(table, state):
    """How many states are needed for the rule of the table from the state on; None without a rule."""
    _check_from(table, state)
    if _reason(table, state) is not None:
        return None
    return len({tuple(_order(table, here)) for here in _coming_up(table, state)})


def parting_calls(one, first, other, second):
    """A shortest list of calls behind which the next miss sends unlike lines, or None."""
    _check_from(one, first)
    _check_from(other, second)
    if _lines(one) != _lines(other):
        raise OtherSize("tables of unlike numbers of lines")
    both = _joined(one, other)
    here, there = first, len(one) + second
    levels = _levels(both)
    if levels[-1][here] == levels[-1][there]:
        return None
    many = 0
    while levels[many][here] == levels[many][there]:
        many += 1
    calls = []
    for kinds in reversed(levels[:many]):
        call = _parting_call(both, kinds, here, there)
        calls.append(call)
        here, there = _behind(both, here, call), _behind(both, there, call)
    return calls


def least_table(table, state):
    """The table with as few states as possible that sends the same lines from its state 0 on."""
    _check_from(table, state)
    return _least(table, state)


def table_for(rule):
    """The least table of a machine with the rule, whose state 0 has the order 0, 1 .. k - 1."""
    check_rule(rule)
    if states_needed(rule) > _MOST_STATES:
        raise TooMany(_MOST_STATES)
    # Unlike orders send unlike lines at some miss, so this table is the least one.
    return _numbered(tuple(range(len(rule))), lambda order: _told_of_order(rule, order))


def tree_table(k):
    """The least table of a tree of bits for 2, 4 or 8 lines."""
    if not is_integer(k) or k not in (2, 4, 8):
        raise InvalidNumber("k is not 2, 4 or 8")
    return _least(_numbered(tuple([0 for _ in range(k)]), _told_of_bits), 0)


def marks_table(k):
    """The least table of 2 to 6 lines with marks."""
    if not is_integer(k) or not 2 <= k <= 6:
        raise InvalidNumber("k is not an integer from 2 to 6")
    return _least(_numbered(tuple([0 for _ in range(k)]), _told_of_marks), 0)


def _first_wrong(table):
    """The index of the first item that is no state of a table with as many states, or None."""
    for index, item in enumerate(table):
        if not _is_state(item, len(table)) or len(item[0]) != len(table[0][0]):
            return index
    return None


def _is_state(value, many):
    if not isinstance(value, tuple) or len(value) != 3:
        return False
    hits, out, miss = value
    if not isinstance(hits, list) or not 2 <= len(hits) <= 12:
        return False
    return is_index(out, len(hits)) and all([is_index(item, many) for item in [*hits, miss]])


def _check_from(table, state):
    check_table(table)
    if not is_index(state, len(table)):
        raise InvalidNumber("state is not the index of a state")


def _lines(table):
    return len(table[0][0])


def _order(table, state):
    order = []
    here = state
    for _ in range(_lines(table)):
        _, out, miss = table[here]
        order.append(out)
        here = miss
    return order


def _lacks_a_line(order):
    return sorted(order) != list(range(len(order)))


def _coming_up(table, state):
    """The states that any hits and misses lead to, the state itself first."""
    found = [state]
    seen = {state}
    at = 0
    while at < len(found):
        hits, _, miss = table[found[at]]
        for behind in [*hits, miss]:
            if behind not in seen:
                seen.add(behind)
                found.append(behind)
        at += 1
    return found


def _moves(table, state, place):
    """Where a hit at the line at this place takes the lines of the order; None if an order lacks a line."""
    order = _order(table, state)
    if _lacks_a_line(order):
        return None
    behind = _order(table, table[state][0][order[place]])
    if _lacks_a_line(behind):
        return None
    return [behind.index(line) for line in order]


def _reason(table, state):
    coming = _coming_up(table, state)
    for here in coming:
        if _lacks_a_line(_order(table, here)):
            return "order", here
    for place in range(_lines(table)):
        moves = _moves(table, state, place)
        for here in coming:
            if _moves(table, here, place) != moves:
                return "moves", state, here, place
    return None


def _is_one_of(value, states):
    return is_integer(value) and value in states


def _are_unlike_moves(table, coming, value):
    _, first, second, place = value
    if not _is_one_of(first, coming) or not _is_one_of(second, coming) or not is_index(place, _lines(table)):
        return False
    one = _moves(table, first, place)
    other = _moves(table, second, place)
    return one is not None and other is not None and one != other


def _joined(one, other):
    """One table with the states of both; those of the other one come behind."""
    many = len(one)
    return [*one, *[([item + many for item in hits], out, miss + many) for hits, out, miss in other]]


def _levels(table):
    """For 0, 1 .. calls a list of the kinds of the states: alike if no so many calls part them.

    Behind the last level no further calls part any states.
    """
    levels = [_kinds([state[1] for state in table])]
    while True:
        kinds = levels[-1]
        finer = _kinds([(kinds[at], _kinds_behind(kinds, state)) for at, state in enumerate(table)])
        if max(finer) == max(kinds):
            return levels
        levels.append(finer)


def _kinds(signs):
    """The number of each sign, counted from 0 in the order in which unlike ones come up."""
    number_of = {}
    return [number_of.setdefault(sign, len(number_of)) for sign in signs]


def _kinds_behind(kinds, state):
    hits, _, miss = state
    return tuple([kinds[item] for item in [*hits, miss]])


def _parting_call(table, kinds, here, there):
    """The first call behind which the two states are of unlike kinds; None is the miss."""
    for line in range(_lines(table)):
        if kinds[_behind(table, here, line)] != kinds[_behind(table, there, line)]:
            return line
    return None


def _behind(table, state, call):
    hits, _, miss = table[state]
    if call is None:
        return miss
    return hits[call]


def _least(table, state):
    kinds = _levels(table)[-1]
    state_of = {}
    for at, kind in enumerate(kinds):
        state_of.setdefault(kind, at)

    def told(kind):
        hits, out, miss = table[state_of[kind]]
        return [kinds[item] for item in hits], out, kinds[miss]

    return _numbered(kinds[state], told)


def _numbered(first, told):
    """The table of the states that come up from the first one, numbered as they come up.

    A state is any key of a dict; told gives its next states for hits, the line that goes, the next state then.
    """
    found = [first]
    number_of = {first: 0}
    table = []
    while len(table) < len(found):
        hits, out, miss = told(found[len(table)])
        for behind in [*hits, miss]:
            if behind not in number_of:
                number_of[behind] = len(found)
                found.append(behind)
        table.append(([number_of[item] for item in hits], out, number_of[miss]))
    return table


def _told_of_order(rule, order):
    """A state is the tuple of the lines at the places."""
    hits = [tuple(moved(order, rule[order.index(line)])) for line in range(len(order))]
    return hits, order[0], (*order[1:], order[0])


def _told_of_bits(bits):
    """A state has the bit of node n at index n: the nodes below n are 2 n and 2 n + 1, line m is node k + m."""
    k = len(bits)
    node = 1
    while node < k:
        node = 2 * node + bits[node]
    out = node - k
    hits = [_turned_away(bits, line) for line in range(k)]
    return hits, out, hits[out]


def _turned_away(bits, line):
    turned = list(bits)
    node = len(bits) + line
    while node > 1:
        turned[node // 2] = 1 - node % 2
        node = node // 2
    return tuple(turned)


def _told_of_marks(marks):
    """A state is the tuple of the marks, 1 for a line with a mark."""
    hits = [_marked(marks, line) for line in range(len(marks))]
    out = marks.index(0)
    return hits, out, hits[out]


def _marked(marks, line):
    if 0 in [*marks[:line], *marks[line + 1:]]:
        return (*marks[:line], 1, *marks[line + 1:])
    return tuple([1 if other == line else 0 for other in range(len(marks))])
