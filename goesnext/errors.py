"""The errors of the package: one class for each kind of failure."""


class GoesError(ValueError):
    """The base of all errors of the package."""


class InvalidPermutation(GoesError):
    """An argument is no permutation."""


class InvalidNumber(GoesError):
    """An argument is no integer in its limits."""


class InvalidWide(GoesError):
    """An argument is no wide rule."""


class InvalidOutcomes(GoesError):
    """An argument is no list of outcomes of its stream."""


class InvalidBlock(GoesError):
    """An argument is no block."""


class OtherSize(GoesError):
    """Two arguments have unlike numbers of places or lines."""


class NothingToUndo(GoesError):
    """There is no access to take back."""


class InvalidPermutations(GoesError):
    """An argument is no list of permutations of one size; index tells the item."""

    def __init__(self, index):
        super().__init__(f"not a list of permutations of one size: index {index}")
        self.index = index


class InvalidRule(GoesError):
    """An argument is no rule; index tells the permutation."""

    def __init__(self, index):
        super().__init__(f"not a rule: index {index}")
        self.index = index


class InvalidRules(GoesError):
    """An argument is no list of rules of one size; index tells the rule."""

    def __init__(self, index):
        super().__init__(f"not a list of rules of one size: index {index}")
        self.index = index


class InvalidRow(GoesError):
    """An argument is no row; index tells the item."""

    def __init__(self, index):
        super().__init__(f"not a row: index {index}")
        self.index = index


class InvalidRows(GoesError):
    """An argument is no list of rows for sets; index tells the row."""

    def __init__(self, index):
        super().__init__(f"not a list of rows for sets: index {index}")
        self.index = index


class InvalidStream(GoesError):
    """An argument is no stream; index tells the item."""

    def __init__(self, index):
        super().__init__(f"not a stream: index {index}")
        self.index = index


class InvalidTable(GoesError):
    """An argument is no table; state tells the item."""

    def __init__(self, state):
        super().__init__(f"not a table: state {state}")
        self.state = state


class NotWhole(GoesError):
    """A wide rule has stuck places; places lists them."""

    def __init__(self, places):
        super().__init__(f"not whole: stuck places {places}")
        # A copy, because the caller's list may change later.
        self.places = list(places)


class TooMany(GoesError):
    """There are more results than the limit."""

    def __init__(self, limit):
        super().__init__(f"more than {limit}")
        self.limit = limit


class WouldGo(GoesError):
    """An access would take out a kept block."""

    def __init__(self, block):
        super().__init__(f"the kept block {block} would go")
        self.block = block


class InvalidText(GoesError):
    """A text cannot be read; line and word tell where."""

    def __init__(self, line, word):
        super().__init__(f"not a valid text: line {line}, word {word}")
        self.line = line
        self.word = word
