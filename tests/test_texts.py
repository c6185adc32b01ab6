"""Texts of rules, tables and outcomes: [2] to [5], [10] and the interface of goesnext.texts."""

import re
import unittest

from goesnext.errors import InvalidOutcomes, InvalidRule, InvalidTable, InvalidText
from goesnext.rules import climbing, first_in, last_used, tree
from goesnext.tables import marks_table, table_for, tree_table
from goesnext.texts import format_outcomes, format_rule, format_table, parse_outcomes, parse_rule, parse_table
from model import NO_RULE, WRONG_KINDS, CallTest, draw_rule, drawn
from table_model import draw_table

NO_TEXT = [value for value in WRONG_KINDS if not isinstance(value, str)] + [["0 1", "1 0"], [[0, 1], [1, 0]], ("+",)]
NO_TABLE = [(value, None) for value in WRONG_KINDS if not isinstance(value, list)] + [
    ([], None), ((([0, 0], 0, 0),), None), ("0 0 0 0", None),
    ([None], 0), ([[]], 0), ([([0, 0], 0, 0), None], 1), ([([0, 0], 0)], 0), ([[[0, 0], 0, 0]], 0),
    ([([0, 1], 0, 0)], 0), ([([0, 0], 2, 0)], 0), ([([0, 0], 0, 1)], 0), ([([0, 0], 0, -1)], 0),
    ([([0, 0], 0, 0), ([0, 0, 0], 0, 0)], 1), ([([0], 0, 0)], 0), ([([0] * 13, 0, 0)], 0), ([((0, 0), 0, 0)], 0),
    ([([0, True], 0, 0), ([0, 0], 0, 0)], 0), ([([0, 0], False, 0)], 0), ([([0, 0], 0, None)], 0),
    ([([0, 1], 0, 1), ([0, 1], 1, 2)], 1),
]
ODD_WORDS = ["", "00", "01", "-1", "+1", "-0", "1.0", "12", "13", "99999", "10000", "9999", "x", "0x1", "1_0", "1e1",
             "True", "None", "0,", "[0", "1]", "~", "!", "007", "0000", "000000"]


def good_word(word):
    return re.fullmatch("0|[1-9][0-9]{0,3}", word) is not None


def first_wrong_of_rule(text):
    """The line and the word that cannot stand there, or None; read sign by sign."""
    lines = [line.split(" ") for line in text.split("\n")]
    k = max(2, min(12, len(lines[0])))
    for at, words in enumerate(lines):
        for place, word in enumerate(words):
            if at >= k or place >= k or not good_word(word) or int(word) >= k or word in words[:place]:
                return at, place
        if len(words) < k:
            return at, len(words)
    return (len(lines), 0) if len(lines) < k else None


def first_wrong_of_table(text):
    lines = [line.split(" ") for line in text.split("\n")]
    k = max(2, min(12, len(lines[0]) - 2))
    for at, words in enumerate(lines):
        for place, word in enumerate(words):
            limit = k if place == k else len(lines)
            if place >= k + 2 or not good_word(word) or int(word) >= limit:
                return at, place
        if len(words) < k + 2:
            return at, len(words)
    return None


def own_text(rows):
    text = ""
    for at, row in enumerate(rows):
        text += "\n" if at else ""
        for place, item in enumerate(row):
            text += (" " if place else "") + str(item)
    return text


def numbers_of(text):
    return [[int(word) for word in line.split(" ")] for line in text.split("\n")]


def changed_words(rng, text):
    """The text with a word put in, left out, doubled, changed or exchanged with another one."""
    lines = [line.split(" ") for line in text.split("\n")]
    at = rng.randrange(len(lines))
    words = lines[at]
    place = rng.randrange(len(words))
    kind = rng.randrange(6)
    other = rng.choice(ODD_WORDS + [str(rng.randrange(14)), words[0], words[-1]])
    if kind == 0:
        words.insert(rng.randrange(len(words) + 1), other)
    elif kind == 1:
        del words[place]
    elif kind == 2:
        words.insert(place, words[place])
    elif kind < 5:
        words[place] = other
    else:
        swap = rng.randrange(len(words))
        words[place], words[swap] = words[swap], words[place]
    return own_text(lines)


def changed_lines(rng, text):
    """The text with a line left out, doubled, exchanged with another one, emptied, or one put in."""
    lines = text.split("\n")
    at, other = rng.randrange(len(lines)), rng.randrange(len(lines))
    kind = rng.randrange(6)
    if kind == 0:
        del lines[at]
    elif kind == 1:
        lines.insert(at, lines[at])
    elif kind == 2:
        lines[at], lines[other] = lines[other], lines[at]
    elif kind == 3:
        lines[at] = ""
    else:
        lines.insert(rng.choice([0, at, len(lines)]), rng.choice(["", lines[other], " ", "0"]))
    return "\n".join(lines)


def changed_signs(rng, text):
    """The text with a sign put in, left out, doubled or changed."""
    at = rng.randrange(len(text) + 1)
    kind = rng.randrange(4)
    sign = rng.choice("0123456789  \n\n-+.,x~ ")
    if kind == 0:
        return text[:at] + sign + text[at:]
    if kind == 1:
        return text[:at] + text[at + 1:]
    if kind == 2:
        return text[:at] + text[at:at + 1] * 2 + text[at + 1:]
    return text[:at] + sign + text[at + 1:]


def changed(rng, text):
    for _ in range(rng.choice([1, 1, 1, 2, 3])):
        text = rng.choice([changed_words, changed_lines, changed_signs])(rng, text)
    return text


class ExamplesTest(CallTest):
    def test_examples(self):
        self.assertEqual([format_rule(last_used(2)), format_table(tree_table(2)),
                          parse_rule(format_rule(tree(4))) == tree(4),
                          parse_table(format_table(tree_table(4))) == tree_table(4)],
                         ["1 0\n0 1", "1 0 0 1\n1 0 1 0", True, True])
        self.assertEqual([format_outcomes([True, False]), parse_outcomes("+-+")], ["+-", [True, False, True]])
        self.fails(InvalidText, {"line": 1, "word": 1}, parse_rule, "0 1\n0 0")

    def test_by_name(self):
        self.assertEqual([format_rule(rule=first_in(2)), parse_rule(text="0 1\n0 1")], ["0 1\n0 1", first_in(2)])
        self.assertEqual([format_table(table=tree_table(2)), parse_table(text="1 0 0 1\n1 0 1 0")],
                         ["1 0 0 1\n1 0 1 0", tree_table(2)])
        self.assertEqual([format_outcomes(outcomes=[True]), parse_outcomes(text="-")], ["+", [False]])


class ReadTest(CallTest):
    def check_rule(self, text):
        wrong = first_wrong_of_rule(text)
        if wrong is None:
            self.assertEqual(self.steady(parse_rule, text), numbers_of(text))
        else:
            with self.subTest(text=text):
                self.fails(InvalidText, {"line": wrong[0], "word": wrong[1]}, parse_rule, text)
        return wrong

    def check_table(self, text):
        wrong = first_wrong_of_table(text)
        if wrong is None:
            told = [(row[:-2], row[-2], row[-1]) for row in numbers_of(text)]
            self.assertEqual(repr(self.steady(parse_table, text)), repr(told))
        else:
            with self.subTest(text=text):
                self.fails(InvalidText, {"line": wrong[0], "word": wrong[1]}, parse_table, text)
        return wrong


class RuleTest(ReadTest):
    def test_there_and_back(self):
        rng = drawn(160)
        for k in range(2, 13):
            for rule in [first_in(k), last_used(k), climbing(k), draw_rule(rng, k), draw_rule(rng, k)]:
                text = self.steady(format_rule, rule)
                self.assertEqual(text, own_text(rule))
                self.assertEqual(self.steady(parse_rule, text), rule)

    def test_changed_texts(self):
        rng = drawn(161)
        found = set()
        for _ in range(3000):
            k = rng.choice([2, 2, 3, 3, 4, 5, 11, 12])
            found.add(self.check_rule(changed(rng, own_text(draw_rule(rng, k)))))
        self.assertGreater(len(found), 50)
        self.assertIn(None, found)

    def test_words_and_lines_by_hand(self):
        for text, line, word in [
                ("", 0, 0), (" ", 0, 0), ("\n", 0, 0), ("0", 0, 1), ("1", 0, 1), ("2", 0, 0), ("0 1", 1, 0),
                ("0 1\n", 1, 0), ("0 1\n1", 1, 1), ("0 1\n1 0\n", 2, 0), ("0 1\n1 0\n0 1", 2, 0),
                ("0 1\n1 0\nx", 2, 0), ("0 1\n1 0 ", 1, 2), ("0 1 \n1 0", 0, 2), (" 0 1\n1 0", 0, 0),
                ("0  1\n1 0", 0, 1), ("0 1\n1 0 0", 1, 2), ("0 1\n1 2", 1, 1), ("0 1\n01 0", 1, 0), ("0 0\n1 0", 0, 1),
                ("0 1\n-1 0", 1, 0), ("0 1\n+1 0", 1, 0), ("0 1\n1 -0", 1, 1), ("0 1\n1 00", 1, 1), ("x 1\nx", 0, 0),
                ("0 1 2\n0 1 2\n0 2 3", 2, 2), ("0 1 2\n0 1 2\n0 2", 2, 2), ("0 1 2\n0 1 2", 2, 0),
                ("0 1\n\n1 0", 1, 0), ("\n0 1\n1 0", 0, 0), ("0 1\n1 00000", 1, 1), ("0 1 2\n0 1", 1, 2),
                ("0 1 2\n0 1\n0 1", 1, 2), ("0 1\n0 1 2\n0 1 2", 1, 2)]:
            self.assertEqual(self.check_rule(text), (line, word))

    def test_too_many_places(self):
        long = " ".join(str(item) for item in range(13))
        self.assertEqual(self.check_rule("\n".join([long] * 13)), (0, 12))
        self.assertEqual(self.check_rule(long[:-3]), (1, 0))
        self.assertEqual(self.check_rule("\n".join([long[:-3]] * 12)), None)
        self.assertEqual(self.check_rule("\n".join([long[:-3]] * 13)), (12, 0))
        self.assertEqual(self.check_rule("\n".join([long[:-3]] * 11)), (11, 0))
        self.assertEqual(self.check_rule("0 1 2 3 4 5 6 7 8 9 10 12 11"), (0, 11))


class TableTest(ReadTest):
    def test_there_and_back(self):
        rng = drawn(162)
        tables = [tree_table(k) for k in (2, 4, 8)] + [marks_table(k) for k in range(2, 6)] + [table_for(tree(4))]
        tables += [draw_table(rng, k, many) for k in range(2, 13) for many in (1, 2, 9, 10, 11, 40)]
        for table in tables + [draw_table(rng, 3, 200), draw_table(rng, 2, 1100)]:
            text = self.steady(format_table, table)
            self.assertEqual(text, own_text([hits + [out, miss] for hits, out, miss in table]))
            self.assertEqual(repr(self.steady(parse_table, text)), repr(table))

    def test_changed_texts(self):
        rng = drawn(163)
        found = set()
        for _ in range(3000):
            table = draw_table(rng, rng.choice([2, 2, 3, 4, 12]), rng.choice([1, 2, 3, 5, 12]))
            text = own_text([hits + [out, miss] for hits, out, miss in table])
            found.add(self.check_table(changed(rng, text)))
        self.assertGreater(len(found), 50)
        self.assertIn(None, found)

    def test_words_and_lines_by_hand(self):
        for text, line, word in [
                ("", 0, 0), (" ", 0, 0), ("0", 0, 1), ("0 0", 0, 2), ("0 0 0", 0, 3), ("0 0 0 1", 0, 3),
                ("1 0 0 0", 0, 0), ("0 0 2 0", 0, 2), ("0 0 1 0\n", 1, 0), ("\n0 0 0 0", 0, 0), ("0 0 0 0 ", 0, 4),
                ("0 0 0 0 0\n0 0 0 0", 1, 4), ("0 0 0 0\n0 0 0 0 0", 1, 4), ("0 1 0 1\n0 2 0 1", 1, 1),
                ("0 1 0 1\n0 1 0 2", 1, 3), ("0 1 0 1\n0 1 2 0", 1, 2), ("0 1 0 1\n\n0 1 0 1", 1, 0),
                ("0 0 00 0", 0, 2), ("0 -0 0 0", 0, 1), ("0 0 0 +0", 0, 3), ("0 0  0 0", 0, 2), ("0 00000 0 0", 0, 1)]:
            self.assertEqual(self.check_table(text), (line, word))
        self.assertIsNone(self.check_table("0 0 1 0"))

    def test_too_many_lines_of_a_state(self):
        self.assertIsNone(self.check_table(" ".join(["0"] * 14)))
        self.assertEqual(self.check_table(" ".join(["0"] * 15)), (0, 14))
        self.assertEqual(self.check_table(" ".join(["0"] * 12 + ["12", "0"])), (0, 12))
        self.assertIsNone(self.check_table(" ".join(["0"] * 12 + ["11", "0"])))
        self.assertEqual(self.check_table(" ".join(["0"] * 13 + ["11"])), (0, 13))

    def test_words_of_five_digits(self):
        lines = ["0 0 0 0"] * 10002
        for word, wrong in [("9999", None), ("10000", (5, 3)), ("10001", (5, 3))]:
            self.assertEqual(self.check_table("\n".join(lines[:5] + ["0 0 0 " + word] + lines[6:])), wrong)

    def test_words_may_stand_twice(self):
        self.assertEqual(parse_table("0 0 0 0\n0 0 0 0"), [([0, 0], 0, 0), ([0, 0], 0, 0)])


class OutcomesTest(CallTest):
    def test_there_and_back(self):
        rng = drawn(164)
        for length in [0, 1, 2, 3, 10, 400, 700]:
            outcomes = [rng.random() < 0.5 for _ in range(length)]
            text = self.steady(format_outcomes, outcomes)
            told = ""
            for one in outcomes:
                told += "+" if one else "-"
            self.assertEqual(text, told)
            self.assertEqual(repr(self.steady(parse_outcomes, text)), repr(outcomes))

    def test_other_signs(self):
        rng = drawn(165)
        for sign in " \n0123456789~!x*/=_.,":
            for length in (0, 1, 5, 30):
                at = rng.randint(0, length)
                text = "".join(rng.choice("+-") for _ in range(length))
                self.fails(InvalidText, {"line": 0, "word": at}, parse_outcomes, text[:at] + sign + text[at:])
                self.fails(InvalidText, {"line": 0, "word": at}, parse_outcomes, text[:at] + sign * 3 + text[at:])
        self.fails(InvalidText, {"line": 0, "word": 1}, parse_outcomes, "+\n-")
        self.fails(InvalidText, {"line": 0, "word": 2}, parse_outcomes, "+-\n")

    def test_no_outcomes(self):
        for value in [value for value in WRONG_KINDS if value != []] + [
                (True,), "+-", [1], [0], [True, 1], [None], ["+"], [[True]], [True, None], {"0": True}]:
            with self.subTest(value=value):
                self.fails(InvalidOutcomes, {}, format_outcomes, value)
        self.assertEqual([format_outcomes([]), parse_outcomes("")], ["", []])


class ErrorsTest(CallTest):
    def test_no_string(self):
        for value in NO_TEXT:
            with self.subTest(value=value):
                for call in (parse_rule, parse_table, parse_outcomes):
                    self.fails(InvalidText, {"line": None, "word": None}, call, value)

    def test_no_rule(self):
        for value, index in NO_RULE:
            with self.subTest(value=value):
                self.fails(InvalidRule, {"index": index}, format_rule, value)

    def test_no_table(self):
        for value, state in NO_TABLE:
            with self.subTest(value=value):
                self.fails(InvalidTable, {"state": state}, format_table, value)


if __name__ == "__main__":
    unittest.main()
