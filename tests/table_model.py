"""What the tests of tables share: tables of many kinds, and what the test itself finds in them."""

import itertools

from model import draw_rule


def lines_of(table):
    return len(table[0][0])


def calls_of(table):
    return list(range(lines_of(table))) + [None]


def step(table, state, call):
    hits, _, miss = table[state]
    return miss if call is None else hits[call]


def order(table, state):
    found = []
    for _ in range(lines_of(table)):
        found.append(table[state][1])
        state = table[state][2]
    return found


def lacks(table, state):
    return set(order(table, state)) != set(range(lines_of(table)))


def coming(table, state):
    found = {state}
    edge = [state]
    while edge:
        behind = {step(table, here, call) for here in edge for call in calls_of(table)}
        edge = list(behind - found)
        found |= behind
    return found


def moves(table, state, place):
    """The permutation that the hit makes, as a tuple; None if an order lacks a line."""
    now = order(table, state)
    later = step(table, state, now[place])
    if lacks(table, state) or lacks(table, later):
        return None
    told = order(table, later)
    return tuple(told.index(now[j]) for j in range(len(now)))


def reasons(table, state):
    """All tuples that show that there is no rule."""
    states = sorted(coming(table, state))
    found = {("order", here) for here in states if lacks(table, here)}
    for place in range(lines_of(table)):
        made = {here: moves(table, here, place) for here in states}
        for first, second in itertools.product(states, repeat=2):
            if made[first] is not None and made[second] is not None and made[first] != made[second]:
                found.add(("moves", first, second, place))
    return found


def own_rule(table, state):
    if reasons(table, state):
        return None
    return [list(moves(table, state, place)) for place in range(lines_of(table))]


def parted_by(one, first, other, second):
    """The number of calls that part the states by the next miss, or None."""
    seen = {(first, second)}
    edge = [(first, second)]
    many = 0
    while edge:
        if any(one[here][1] != other[there][1] for here, there in edge):
            return many
        behind = {(step(one, here, call), step(other, there, call)) for here, there in edge for call in calls_of(one)}
        edge = list(behind - seen)
        seen |= behind
        many += 1
    return None


def numbered_as_they_come_up(table):
    met = [0]
    for at in range(len(table)):
        if at == len(met):
            return False
        for call in calls_of(table):
            behind = step(table, at, call)
            if behind not in met:
                if behind != len(met):
                    return False
                met.append(behind)
    return len(met) == len(table)


def draw_table(rng, k, many):
    return [([rng.randrange(many) for _ in range(k)], rng.randrange(k), rng.randrange(many)) for _ in range(many)]


def table_of(rule):
    """A table of the rule, its states numbered in no special way, and the state with the order 0, 1 .."""
    k = len(rule)
    start = tuple(range(k))
    found = [start]
    rows = {}
    for lines in found:
        behind = []
        for line in range(k):
            told = [None] * k
            for j in range(k):
                told[rule[lines.index(line)][j]] = lines[j]
            behind.append(tuple(told))
        rows[lines] = (behind, lines[0], lines[1:] + lines[:1])
        for lines_then in behind + [rows[lines][2]]:
            if lines_then not in found:
                found.append(lines_then)
    found.sort(reverse=True)
    table = [([found.index(one) for one in rows[lines][0]], rows[lines][1], found.index(rows[lines][2]))
             for lines in found]
    return table, found.index(start)


def doubled(rng, table, state, most):
    """The table with states twice or more often, in another sequence, and a state that is like the given one."""
    origin = list(range(len(table))) + [rng.randrange(len(table)) for _ in range(most - len(table))]
    rng.shuffle(origin)
    copies = [[at for at, one in enumerate(origin) if one == old] for old in range(len(table))]
    made = [([rng.choice(copies[item]) for item in table[old][0]], table[old][1], rng.choice(copies[table[old][2]]))
            for old in origin]
    return made, rng.choice(copies[state])


def changed(rng, table):
    """The table with one item of one state changed."""
    made = list(table)
    at = rng.randrange(len(table))
    hits, out, miss = table[at]
    kind = rng.randrange(4)
    if kind < 2:
        hits = list(hits)
        hits[rng.randrange(len(hits))] = rng.randrange(len(table))
    elif kind == 2:
        out = rng.randrange(len(hits))
    else:
        miss = rng.randrange(len(table))
    made[at] = (hits, out, miss)
    return made


def turning(rng, k, many):
    """A table in which no order lacks a line, with any hits."""
    rings = []
    for _ in range(many):
        first = rng.sample(range(k), k)
        rings.append([first[at:] + first[:at] for at in range(k)])
    size = k * many
    return [([rng.randrange(size) for _ in range(k)], rings[at // k][at % k][0], at - at % k + (at + 1) % k)
            for at in range(size)]


def draw_small_rule(rng, k):
    """A rule with few states: any one for few places, otherwise one whose hits turn the row."""
    if k <= 4:
        return draw_rule(rng, k)
    return [[(j + turn) % k for j in range(k)] for turn in rng.choices(range(k), k=k)]
