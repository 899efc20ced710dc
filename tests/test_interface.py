"""The interface: each name stands in its file, with its arguments, and the files keep their size."""

import ast
import os
import unittest

FOLDER = os.path.join(os.path.dirname(os.path.dirname(os.path.abspath(__file__))), "whyreran")

FUNCTIONS = {
    "projects": [
        "is_name(value)", "is_project(value)", "is_graph(project, value)",
        "is_build(project, value)", "is_log(project, value)", "names_of(project)",
        "names_above(project, graph, name)", "targets_below(project, graph, name)",
        "cycle_in(project, dependencies)", "target_order(project, graph)",
    ],
    "builds": [
        "run_build(project, graph, pending, changed, results)",
        "run_builds(project, graph, plans)", "pending_in(project, log, index)",
        "explains(project, graph, log)", "first_mismatch(project, graph, log)",
        "cause_of(project, graph, log, index, target)",
    ],
    "facts": [
        "exclusion(project, log, target, name)", "permitted_names(project, log, target)",
        "needs_of(project, log, target)", "closure_without(project, log, names)",
    ],
    "explaining": [
        "is_explained(project, log)", "explanation(project, log)",
        "find_obstruction(project, log)", "lean_explanation(project, log)",
    ],
    "judging": ["is_obstruction(project, log, value)", "is_lean(project, log, graph)"],
    "deciding": [
        "standing_of(project, log, target, name)", "certain_dependencies(project, log, target)",
        "possible_dependencies(project, log, target)", "graph_with(project, log, target, name)",
        "graph_without(project, log, target, name)",
    ],
    "avoiding": [
        "certain_above(project, log, target)", "certain_below(project, log, name)",
        "avoiding_graph(project, log, names)", "stuck_choices(project, log, names)",
        "is_stuck(project, log, names, value)",
    ],
    "next_builds": [
        "must_run(project, log, target, changed)", "may_run(project, log, target, changed)",
        "least_reruns(project, log, changed)", "least_rerun_graph(project, log, changed)",
        "certain_blocked(project, log, target)", "fits_next(project, log, build)",
        "fitting_statuses(project, log, build, target)",
    ],
    "counting": [
        "count_explanations(project, log)", "count_with(project, log, target, name)",
        "nth_explanation(project, log, number)", "explanation_number(project, log, graph)",
    ],
    "equivalence": [
        "live_targets(project, graph)", "greatest_form(project, graph)",
        "least_form(project, graph)", "have_same_logs(project, graph, other)",
        "is_superfluous(project, graph, target, name)",
        "uncovered_path(project, graph, target, name)",
        "separating_build(project, graph, other)", "count_same(project, graph)",
    ],
    "settling": [
        "is_settled(project, log)", "unsettled_pair(project, log)", "settling_log(project, graph)",
    ],
    "conflicts": [
        "first_conflict(project, log)", "conflict_core(project, log)",
        "is_core(project, log, value)", "culprits(project, log)",
    ],
    "texts": [
        "format_graph(project, graph)", "format_build(project, build)", "format_log(project, log)",
        "parse_graph(project, text)", "parse_build(project, text)", "parse_log(project, text)",
    ],
}
CLASSES = {
    "errors": [
        "RerunError", "InvalidProject", "InvalidGraph", "InvalidBuild", "InvalidLog",
        "InvalidTarget", "InvalidName", "InvalidNames", "InvalidResults", "InvalidNumber",
        "InvalidMark", "InvalidCommand", "NothingToUndo", "NotExplained", "InvalidText", "TooLarge",
    ],
}
METHODS = {
    "tools": {
        "BuildTool": [
            "__init__(self, project, graph)", "run(self, changed, results)", "pending_targets(self)",
            "history(self)", "undo(self)", "duplicate(self)", "__len__(self)", "__eq__(self, other)",
        ],
    },
    "recorder": {
        "Recorder": [
            "__init__(self, project)", "add_build(self, build)", "undo(self)", "set_mark(self)",
            "return_to(self, mark)", "builds(self)", "pending_targets(self)", "is_explained(self)",
            "find_obstruction(self)", "certain_dependencies(self, target)",
            "least_reruns(self, changed)", "duplicate(self)", "__len__(self)", "__eq__(self, other)",
        ],
    },
    "console": {"Console": ["__init__(self)", "execute(self, row)"]},
}


def read(name):
    with open(os.path.join(FOLDER, name), encoding="utf-8", newline="") as file:
        return file.read()


def files():
    return sorted(name for name in os.listdir(FOLDER) if name != "__pycache__")


def functions_in(rows):
    """Return the functions that are defined in these rows, with their arguments."""
    return [
        "%s(%s)" % (node.name, ast.unparse(node.args))
        for node in rows if isinstance(node, ast.FunctionDef)
    ]


def is_map(node):
    return isinstance(node, ast.Call) and isinstance(node.func, ast.Name) and node.func.id == "map"


class TheInterface(unittest.TestCase):
    def test_the_functions_are_defined_in_their_files(self):
        for module, expected in FUNCTIONS.items():
            found = functions_in(ast.parse(read(module + ".py")).body)
            self.assertLessEqual(set(expected), set(found))

    def test_the_methods_are_defined_in_the_classes_themselves(self):
        for module, classes in METHODS.items():
            found = {
                node.name: functions_in(node.body)
                for node in ast.parse(read(module + ".py")).body if isinstance(node, ast.ClassDef)
            }
            for name, expected in classes.items():
                self.assertLessEqual(set(expected), set(found[name]))

    def test_the_classes_are_defined_in_their_files(self):
        for module, expected in CLASSES.items():
            found = [
                node.name for node in ast.parse(read(module + ".py")).body
                if isinstance(node, ast.ClassDef)
            ]
            self.assertLessEqual(set(expected), set(found))


class TheFiles(unittest.TestCase):
    def test_the_folder_holds_python_files_only(self):
        self.assertIn("__init__.py", files())
        self.assertEqual([name for name in files() if not name.endswith(".py")], [])

    def test_sizes_and_signs(self):
        for name in files():
            rows = read(name).split("\n")
            self.assertLessEqual(len(rows), 399, name)
            for row in rows:
                self.assertLessEqual(len(row), 120, name)
                self.assertTrue(all(" " <= sign <= "~" for sign in row), (name, row))

    def test_functions_have_at_most_40_lines(self):
        for name in files():
            for node in ast.walk(ast.parse(read(name))):
                if isinstance(node, ast.FunctionDef):
                    self.assertLessEqual(node.end_lineno - node.lineno + 1, 40, node.name)

    def test_only_files_of_the_package_are_imported(self):
        for name in files():
            for node in ast.walk(ast.parse(read(name))):
                self.assertNotIsInstance(node, ast.Import)
                if isinstance(node, ast.ImportFrom):
                    self.assertEqual(node.module.split(".")[0], "whyreran", name)

    def test_a_map_stands_alone_in_a_call(self):
        for name in files():
            for node in ast.walk(ast.parse(read(name))):
                if isinstance(node, ast.Call) and any(is_map(part) for part in node.args):
                    self.assertEqual((len(node.args), node.keywords), (1, []), (name, node.lineno))


if __name__ == "__main__":
    unittest.main()
