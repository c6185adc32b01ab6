"""Caches of one or more sets, which are used live."""

from goesnext.common import accessed, check_block, check_stream, is_row
from goesnext.errors import InvalidRows, NothingToUndo, WouldGo
from goesnext.rules import check_rule


class Cache:
    """A cache of one or more sets with one rule: the block b is in the set b modulo their number."""

    def __init__(self, rule, rows):
        check_rule(rule)
        _check_rows(rows, len(rule))
        self._rule = [list(moves) for moves in rule]
        self._rows = [list(row) for row in rows]
        self._kept = []
        # For each access that is not taken back its set, whether it was a hit, and the row ahead of it.
        self._past = []

    def access(self, block):
        """Access a block; whether it is a hit."""
        check_block(block)
        at = block % len(self._rows)
        row = self._rows[at]
        hit = block in row
        self._past.append((at, hit, row))
        self._rows[at] = accessed(self._rule, row, block)
        return hit

    def undo(self):
        """Take back the last access that is not taken back."""
        if not self._past:
            raise NothingToUndo("no access to take back")
        at, _, row = self._past.pop()
        self._rows[at] = row

    def tried(self, *blocks):
        """The outcomes if these blocks were accessed one after another; nothing changes."""
        for block in blocks:
            check_block(block)
        other = self.twin()
        return [other.access(block) for block in blocks]

    def twin(self):
        """An independent cache in the same state, with the same accesses to take back."""
        return self._with_past(Cache(self._rule, self._rows))

    def _with_past(self, other):
        other._past = list(self._past)
        return other

    @property
    def rows(self):
        """The rows of the sets."""
        return [list(row) for row in self._rows]

    @property
    def hits(self):
        """The number of hits that are not taken back."""
        return sum([hit for _, hit, _ in self._past])

    @property
    def misses(self):
        """The number of misses that are not taken back."""
        return len(self._past) - self.hits

    def __len__(self):
        return len(self._past)

    def __eq__(self, other):
        if not isinstance(other, Cache) or self.__class__.__name__ != other.__class__.__name__:
            return False
        if self.hits != other.hits or self.misses != other.misses:
            return False
        return self._rule == other._rule and self._rows == other._rows and self._kept == other._kept


class CountingCache(Cache):
    """A cache that also counts the hits and misses of each set."""

    def twin(self):
        """An independent cache in the same state, with the same accesses to take back."""
        return self._with_past(CountingCache(self._rule, self._rows))

    @property
    def by_set(self):
        """The list of the tuples (hits, misses) of the sets, without what is taken back."""
        told = []
        for at in range(len(self._rows)):
            outcomes = [hit for place, hit, _ in self._past if place == at]
            told.append((sum(outcomes), len(outcomes) - sum(outcomes)))
        return told


class KeepingCache(Cache):
    """A cache with kept blocks: no access may take them out."""

    def __init__(self, rule, rows, *, kept):
        super().__init__(rule, rows)
        check_stream(kept)
        self._kept = sorted(set(kept))

    def access(self, block):
        """Access a block, unless a kept block would go; whether it is a hit."""
        check_block(block)
        row = self._rows[block % len(self._rows)]
        if block not in row and row[0] in self._kept:
            raise WouldGo(row[0])
        return super().access(block)

    def twin(self):
        """An independent cache in the same state, with the same accesses to take back."""
        return self._with_past(KeepingCache(self._rule, self._rows, kept=self._kept))

    @property
    def kept(self):
        """The ascending list of the different kept blocks."""
        return list(self._kept)


class CountingKeepingCache(KeepingCache, CountingCache):
    """A cache with kept blocks that also counts the hits and misses of each set."""

    def twin(self):
        """An independent cache in the same state, with the same accesses to take back."""
        return self._with_past(CountingKeepingCache(self._rule, self._rows, kept=self._kept))


def _check_rows(rows, k):
    if not isinstance(rows, list) or not rows:
        raise InvalidRows(None)
    for index, row in enumerate(rows):
        if not is_row(row, k) or not all([block % len(rows) == index for block in row]):
            raise InvalidRows(index)
