"""The interface stands as the document lists it, and the files keep to their sizes and forms."""

import ast
import doctest
import importlib
import inspect
import pathlib
import unittest

PACKAGE = pathlib.Path(__file__).resolve().parent.parent / "goesnext"
INTERFACE = {
    "permutations": {"is_permutation": ["value"], "after": ["first", "second"], "inverse": ["one"], "cycles": ["one"],
                     "turns": ["one"], "power": ["one", "times"]},
    "groups": {"group_order": ["permutations"], "is_member": ["permutations", "one"], "members": ["permutations"],
               "chain_lengths": ["permutations"], "word_for": ["permutations", "one"], "states_needed": ["rule"],
               "rows_by_hits": ["rule"]},
    "rules": {"is_rule": ["value"], "first_in": ["k"], "last_used": ["k"], "climbing": ["k"], "tree": ["k"],
              "raised": ["targets"]},
    "runs": {"outcomes_of": ["rule", "row", "stream"], "row_behind": ["rule", "row", "stream"],
             "gone": ["rule", "row", "stream"], "lines_behind": ["rule", "row", "stream"]},
    "wide": {"is_wide": ["value"], "stuck_places": ["wide"], "numbers": ["wide"], "normal": ["wide"],
             "wide_of": ["rule", "numbers"], "wide_outcomes": ["wide", "row", "stream"],
             "wide_alike": ["one", "other"]},
    "parting": {"parting_stream": ["one", "other", "row"], "shortest_parting": ["one", "other", "row"],
                "is_parting": ["one", "other", "row", "value"], "tell_apart": ["rules", "row"],
                "tells_apart": ["rules", "row", "value"], "fitting": ["rules", "row", "stream", "outcomes"]},
    "tables": {"is_table": ["value"], "order_at": ["table", "state"], "rule_of": ["table", "state"],
               "why_not": ["table", "state"], "shows_not": ["table", "state", "value"],
               "needed_states": ["table", "state"], "parting_calls": ["one", "first", "other", "second"],
               "least_table": ["table", "state"], "table_for": ["rule"], "tree_table": ["k"], "marks_table": ["k"]},
    "reach": {"can_reach": ["rule", "row", "goal"], "hits_to": ["rule", "row", "goal"],
              "is_way": ["rule", "row", "goal", "value"], "far_rows": ["rule"]},
    "unknown": {"forgets": ["rule"], "forgetting": ["rule"], "shows_forgetting": ["rule", "value"],
                "learns": ["rule"], "sure": ["rule", "stream"]},
    "records": {"first_rows": ["rule", "stream", "outcomes"], "is_possible": ["rule", "stream", "outcomes"],
                "rows_left": ["rule", "stream", "outcomes"], "next_one": ["rule", "stream", "outcomes", "block"]},
    "hidden": {"read_rule": ["hidden"]},
    "keeping": {"life": ["rule", "place"], "way_out": ["rule", "place"], "is_way_out": ["rule", "place", "value"],
                "keeps": ["rule"], "lost_way": ["rule", "gap"], "is_lost_way": ["rule", "gap", "value"]},
    "rounds": {"hits_in": ["rule", "row", "stream", "times"], "row_after": ["rule", "row", "stream", "times"],
               "period_of": ["rule", "row", "stream"]},
    "texts": {"format_rule": ["rule"], "parse_rule": ["text"], "format_table": ["table"], "parse_table": ["text"],
              "format_outcomes": ["outcomes"], "parse_outcomes": ["text"]},
}
KEEPING = ["rule", "rows", "by name kept"]
# For each class its bases, the parameters of its constructor and of its methods, and its properties.
CLASSES = {
    "hidden": {"Hidden": (["object"], ["rule"], {"ask": ["stream"]}, ["asks"])},
    "cache": {
        "Cache": (["object"], ["rule", "rows"],
                  {"access": ["block"], "undo": [], "tried": ["*blocks"], "twin": [], "__len__": [],
                   "__eq__": ["other"]}, ["rows", "hits", "misses"]),
        "CountingCache": (["Cache"], ["rule", "rows"], {}, ["by_set"]),
        "KeepingCache": (["Cache"], KEEPING, {"access": ["block"]}, ["kept"]),
        "CountingKeepingCache": (["KeepingCache", "CountingCache"], KEEPING, {}, []),
    },
}


class InterfaceTest(unittest.TestCase):
    def test_names_and_parameters(self):
        for file, functions in INTERFACE.items():
            module = importlib.import_module(f"goesnext.{file}")
            for name, parameters in functions.items():
                with self.subTest(file=file, name=name):
                    function = getattr(module, name)
                    self.assertEqual(function.__module__, module.__name__)
                    self.assertTrue(inspect.isfunction(function))
                    self.check_parameters(function, parameters)

    def test_classes(self):
        for file, classes in CLASSES.items():
            module = importlib.import_module(f"goesnext.{file}")
            for name, (bases, parameters, methods, properties) in classes.items():
                with self.subTest(file=file, name=name):
                    kind = getattr(module, name)
                    self.assertEqual(kind.__module__, module.__name__)
                    self.assertEqual([base.__name__ for base in kind.__bases__], bases)
                    self.check_parameters(kind, parameters)
                    for method, told in methods.items():
                        self.assertTrue(inspect.isfunction(vars(kind)[method]))
                        self.check_parameters(vars(kind)[method], ["self"] + told)
                    for told in properties:
                        self.assertIsInstance(vars(kind)[told], property)

    def check_parameters(self, function, parameters):
        """With "by name " ahead a parameter is passed by name only; with * it takes any number of arguments."""
        told = list(inspect.signature(function).parameters.values())
        kinds = {inspect.Parameter.POSITIONAL_OR_KEYWORD: "", inspect.Parameter.KEYWORD_ONLY: "by name ",
                 inspect.Parameter.VAR_POSITIONAL: "*"}
        self.assertEqual([kinds[one.kind] + one.name for one in told], parameters)
        for one in told:
            self.assertIs(one.default, inspect.Parameter.empty)


class FilesTest(unittest.TestCase):
    def test_sizes_and_characters(self):
        for path in sorted(PACKAGE.glob("*.py")):
            with self.subTest(path.name):
                text = path.read_text(encoding="utf-8")
                lines = text.split("\n")
                self.assertLessEqual(len(lines), 399)
                self.assertLessEqual(max(len(line) for line in lines), 120)
                self.assertTrue(all(one == "\n" or " " <= one <= "~" for one in text))
                for node in ast.walk(ast.parse(text)):
                    if isinstance(node, ast.FunctionDef):
                        self.assertLessEqual(node.end_lineno - node.lineno + 1, 40)

    def test_no_star_in_an_index(self):
        for path in sorted(PACKAGE.glob("*.py")):
            with self.subTest(path.name):
                for node in ast.walk(ast.parse(path.read_text(encoding="utf-8"))):
                    if isinstance(node, ast.Subscript):
                        stars = [one for one in ast.walk(node.slice) if isinstance(one, ast.Starred)]
                        self.assertEqual(stars, [], f"row {node.lineno}")


class ReadmeTest(unittest.TestCase):
    def test_examples(self):
        told = doctest.testfile(str(PACKAGE.parent / "README.md"), module_relative=False)
        self.assertGreater(told.attempted, 0)
        self.assertEqual(told.failed, 0)


if __name__ == "__main__":
    unittest.main()
