"""Texts: rules, tables and outcomes as strings."""

from goesnext.common import check_outcomes
from goesnext.errors import InvalidOutcomes, InvalidText
from goesnext.rules import check_rule
from goesnext.tables import check_table

_FEWEST = 2
_MOST = 12
_MOST_DIGITS = 4


def format_rule(rule):
    """The text of a rule: a line for each permutation."""
    check_rule(rule)
    return _text_of(rule)


def parse_rule(text):
    """The rule with this text."""
    lines = _lines_of(text)
    k = min(max(len(lines[0]), _FEWEST), _MOST)
    rule = []
    for at, words in enumerate(lines):
        if at == k:
            raise InvalidText(at, 0)
        rule.append(_numbers_in(words, at, [k for _ in range(k)], True))
    if len(rule) < k:
        raise InvalidText(len(rule), 0)
    return rule


def format_table(table):
    """The text of a table: a line for each state."""
    check_table(table)
    return _text_of([[*hits, out, miss] for hits, out, miss in table])


def parse_table(text):
    """The table with this text."""
    lines = _lines_of(text)
    many = len(lines)
    k = min(max(len(lines[0]) - 2, _FEWEST), _MOST)
    table = []
    for at, words in enumerate(lines):
        numbers = _numbers_in(words, at, [*[many for _ in range(k)], k, many], False)
        table.append((numbers[:k], numbers[k], numbers[k + 1]))
    return table


def format_outcomes(outcomes):
    """A string with + for True and - for False."""
    if not isinstance(outcomes, list):
        raise InvalidOutcomes("not a list of booleans")
    check_outcomes(outcomes, len(outcomes))
    return "".join(["+" if hit else "-" for hit in outcomes])


def parse_outcomes(text):
    """The outcomes with this text."""
    _check_text(text)
    for index, sign in enumerate(text):
        if sign not in "+-":
            raise InvalidText(0, index)
    return [sign == "+" for sign in text]


def _text_of(lines):
    return "\n".join([" ".join([str(item) for item in line]) for line in lines])


def _check_text(text):
    if not isinstance(text, str):
        raise InvalidText(None, None)


def _lines_of(text):
    """The list of the words of each line."""
    _check_text(text)
    return [line.split(" ") for line in text.split("\n")]


def _numbers_in(words, line, limits, unlike):
    """The numbers of a line, as many as there are limits and each one below its limit."""
    numbers = []
    for at, word in enumerate(words):
        if at == len(limits) or not _is_number(word) or int(word) >= limits[at]:
            raise InvalidText(line, at)
        if unlike and int(word) in numbers:
            raise InvalidText(line, at)
        numbers.append(int(word))
    if len(numbers) < len(limits):
        raise InvalidText(line, len(numbers))
    return numbers


def _is_number(word):
    """Whether a word is an integer without leading zeros of at most four digits."""
    if not 1 <= len(word) <= _MOST_DIGITS or not all([sign in "0123456789" for sign in word]):
        return False
    return word == "0" or word[0] != "0"
