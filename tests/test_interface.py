"""The interface, all of it: where each name is defined, and what it takes."""

import ast
import importlib
import inspect
import pathlib
import unittest

PACKAGE = pathlib.Path(__file__).resolve().parent.parent / "manyruns"
# Each file's functions, and the parameters as the document writes them.
FUNCTIONS = {
    "walks": ("is_walk(table, many, thing)", "walks_of(table, many, steps)", "run_of(walk, place)",
              "shown_of(table, walk)"),
    "bodies": ("is_saying(thing)", "parts_of(body)", "looks_back(body)", "kind_of(saying)"),
    "values": ("values_of(saying, shown, *, ahead=None)", "truths_of(table, saying, walk)", "keeps(table, saying, walk)"),
    "progtables": ("table_of(program)",),
    "tabletexts": ("table_text(table)", "table_in(text)"),
    "sides": ("least_break(table, saying)", "side_by_side(table, saying)", "shows_break(table, saying, thing)",
              "shows_all(table, saying, thing)"),
    "sets": ("first_answer(table, saying, walk)", "least_unanswered(table, saying)", "all_sets(table, saying)",
             "shows_unanswered(table, saying, thing)", "shows_answered(table, saying, thing)"),
    "plans": ("places_of(table, saying, *, ahead=0)", "plan_of(table, saying, *, ahead=0)",
              "shows_plan(table, saying, thing, *, ahead=0)", "answer_by(table, saying, plan, run, *, ahead=0)"),
    "evers": ("stands(table, saying, walk)", "least_none(table, saying)", "ring_of(table, saying)",
              "shows_ring(table, saying, thing)", "shows_none(table, saying, thing)"),
    "likes": ("follows(table, marks)", "classes(table, marks)", "pressed(table, marks)", "shown_rows(table, marks, steps)",
              "shows_follows(table, marks, thing)"),
    "mends": ("least_mend(table, saying, *, most=2)", "no_mend(table, saying, *, many)",
              "shows_no_mend(table, saying, many, thing)"),
    "saytexts": ("say_text(saying)", "say_in(text)"),
    "desk": ("answers(text)",),
}
CLASSES = {
    ("tables", "Table"): ("__init__(self, states, moves, *, begins, shows=())", "marks_of(self, state)",
                          "next_of(self, state)", "without(self, moves)", "__len__(self)", "__eq__(self, other)",
                          "__repr__(self)"),
    ("programs", "Program"): ("__init__(self, text)", "names(self)", "starts(self)", "nexts(self, numbers)",
                              "marks(self, numbers)", "__repr__(self)", "__eq__(self, other)"),
    ("bench", "Bench"): (
        "__init__(self, table)", "add(self, state, *, to=(), marks=())", "drop(self, state)", "link(self, one, other)",
        "cut(self, one, other)", "mark(self, state, marks)", "begin(self, state)", "unbegin(self, state)",
        "say(self, name, saying)", "unsay(self, name)", "mend(self, name, *, most=2)", "do(self, deeds)", "undo(self)",
        "table(self)", "names(self)", "saying(self, name)", "told(self, name)", "broken(self)", "deeds(self)",
        "as_of(self, many)", "twin(self)", "log(self)", "is_open(self)", "__eq__(self, other)", "__len__(self)",
        "__repr__(self)"),
}


def defined_in(nodes, kind):
    return {node.name for node in nodes if isinstance(node, kind)}


class InterfaceTest(unittest.TestCase):

    def check_takes(self, there, told):
        name = told.partition("(")[0]
        self.assertEqual(name + str(inspect.signature(there)), told)

    def test_functions_are_defined_in_their_files(self):
        for file, rows in FUNCTIONS.items():
            module = importlib.import_module(f"manyruns.{file}")
            names = defined_in(ast.parse((PACKAGE / f"{file}.py").read_text()).body, ast.FunctionDef)
            for told in rows:
                with self.subTest(file=file, told=told):
                    self.assertIn(told.partition("(")[0], names)
                    self.check_takes(getattr(module, told.partition("(")[0]), told)

    def test_classes_and_their_methods_are_defined_in_their_files(self):
        for (file, name), rows in CLASSES.items():
            made = getattr(importlib.import_module(f"manyruns.{file}"), name)
            nodes = ast.parse((PACKAGE / f"{file}.py").read_text()).body
            self.assertIn(name, defined_in(nodes, ast.ClassDef))
            node = [node for node in nodes if isinstance(node, ast.ClassDef) and node.name == name][0]
            for told in rows:
                with self.subTest(name=name, told=told):
                    self.assertIn(told.partition("(")[0], defined_in(node.body, ast.FunctionDef))
                    self.check_takes(vars(made)[told.partition("(")[0]], told)

    def test_bench_has_no_other_methods_to_ask(self):
        there = {name for name in vars(importlib.import_module("manyruns.bench").Bench) if not name.startswith("_")}
        self.assertEqual(there, {told.partition("(")[0] for told in CLASSES[("bench", "Bench")] if told[0] != "_"})

    def test_defaults_are_those_of_the_rules(self):
        rules = importlib.import_module("manyruns.rules")
        mends, bench = importlib.import_module("manyruns.mends"), importlib.import_module("manyruns.bench")
        self.assertEqual(inspect.signature(mends.least_mend).parameters["most"].default, rules.MENDS)
        self.assertEqual(inspect.signature(bench.Bench.mend).parameters["most"].default, rules.MENDS)


if __name__ == "__main__":
    unittest.main()
