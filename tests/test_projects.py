"""Points 5 to 8 and 13 to 16: names, projects, graphs, builds and logs, and their forms."""

import unittest
from itertools import product

from tests.support import (
    STATUSES,
    G,
    P,
    all_dependencies,
    all_graphs,
    odd_values,
    pairs_above,
)
from whyreran.errors import InvalidGraph, InvalidName
from whyreran.projects import (
    cycle_in,
    is_build,
    is_graph,
    is_log,
    is_name,
    is_project,
    names_above,
    names_of,
    target_order,
    targets_below,
)

SMALL = [(["s"], ["a", "b", "c"]), (["b", "z"], ["a", "c"]), ([], ["a", "b"]), (["s"], [])]


def numbered(letter, count):
    return ["%s%02d" % (letter, number) for number in range(count)]


class Names(unittest.TestCase):
    def test_names(self):
        for name in ["a", "z", "a0", "a9", "a_", "a.", "main.o", "x_1.y", "a" * 12, "z..........9"]:
            self.assertIs(is_name(name), True, name)

    def test_strings_that_are_not_names(self):
        wrong = [
            "", "a" * 13, "9", "9lives", "_a", ".a", "A", "aB", "a-b", "a b", " a", "a ", "a\n",
            "a\t", "\n", "a/b", "a=b", "\u00e9", "a\u00e9", "a\u0663", "a\u00b2", "\u0430", "a\ud800",
            "a\x00", "a:", "a" * 4000,
        ]
        for name in wrong:
            self.assertIs(is_name(name), False, repr(name))

    def test_every_sign_of_the_keyboard(self):
        for code in range(256):
            sign = chr(code)
            first = sign in "abcdefghijklmnopqrstuvwxyz"
            self.assertIs(is_name(sign), first, repr(sign))
            self.assertIs(is_name("x" + sign), first or sign in "0123456789_.", repr(sign))

    def test_values_of_other_kinds(self):
        for value in odd_values():
            self.assertIs(is_name(value), isinstance(value, str) and value in ("s", "a", "zz"))


class Projects(unittest.TestCase):
    def test_projects(self):
        for project in SMALL + [P, ([], []), (["z"], ["a"]), (["a"], ["b"]), (["b.c", "b_c"], [])]:
            self.assertIs(is_project(project), True, project)

    def test_forty_names_and_twenty_targets(self):
        sizes = [
            (20, 20, True), (40, 0, True), (0, 20, True), (39, 1, True), (21, 20, False),
            (41, 0, False), (40, 1, False), (0, 21, False), (19, 21, False), (10, 21, False),
        ]
        for sources, targets, expected in sizes:
            project = (numbered("s", sources), numbered("t", targets))
            self.assertIs(is_project(project), expected, (sources, targets))

    def test_values_that_are_not_projects(self):
        wrong = [
            (["s", "r"], []), (["s", "s"], []), ([], ["b", "a"]), ([], ["a", "a"]),
            (["a"], ["a"]), (["a", "s"], ["a"]), (["s"], ["r", "s"]), (["S"], []), ([], ["a" * 13]),
            ([""], []), (("s",), ["a"]), (["s"], ("a",)), [["s"], ["a"]], ({"s": 1}, ["a"]),
            ({"s"}, ["a"]), ("s", "a"), ("", ""), (["s"],), (["s"], ["a"], []), ([1], []),
            ([None], []), (["s", 1], []), ([["s"]], []), (["s"], None), (None, ["a"]), ([b"s"], []),
        ]
        for value in wrong + odd_values():
            self.assertIs(is_project(value), False, repr(value))

    def test_names_of(self):
        self.assertEqual(names_of(P), ["a", "b", "c", "s", "u"])
        self.assertEqual(names_of((["b", "z"], ["a", "c"])), ["a", "b", "c", "z"])
        self.assertEqual(names_of(([], [])), [])
        self.assertEqual(names_of((["b.", "b0", "b_", "bb"], ["b"])), ["b", "b.", "b0", "b_", "bb"])


class Graphs(unittest.TestCase):
    def test_a_graph_is_a_form_without_cycles(self):
        for project in SMALL:
            graphs = all_graphs(project)
            for dependencies in all_dependencies(project):
                self.assertIs(is_graph(project, dependencies), dependencies in graphs, dependencies)

    def test_values_that_are_not_graphs(self):
        wrong = [
            {"a": [], "b": []}, {"a": [], "b": [], "c": [], "d": []},
            {"a": [], "b": [], "c": [], "s": []}, {"a": [], "b": [], "s": []},
            {"a": ["u", "s"], "b": [], "c": []}, {"a": ["s", "s"], "b": [], "c": []},
            {"a": ["x"], "b": [], "c": []}, {"a": ("s",), "b": [], "c": []},
            {"a": "s", "b": [], "c": []}, {"a": {"s": 1}, "b": [], "c": []},
            {"a": {"s"}, "b": [], "c": []}, {"a": None, "b": [], "c": []},
            {"a": [None], "b": [], "c": []}, {"a": [["s"]], "b": [], "c": []},
            {"a": ["a"], "b": [], "c": []}, {"a": ["b"], "b": ["c"], "c": ["a"]},
            {"a": ["s"], "b": ["c", "s"], "c": ["b"]}, [["s"], [], []], [("a", [])],
            {"a": [], "b": [], 3: []}, {"a": [], "b": [], None: []},
        ]
        for value in wrong + odd_values():
            self.assertIs(is_graph(P, value), False, repr(value))

    def test_a_project_without_targets_has_one_graph(self):
        self.assertIs(is_graph((["s"], []), {}), True)
        self.assertIs(is_graph((["s"], []), {"s": []}), False)
        self.assertIs(is_graph(([], []), []), False)

    def test_the_largest_graph(self):
        sources, targets = numbered("s", 20), numbered("t", 20)
        graph = {target: sources + targets[:at] for at, target in enumerate(targets)}
        self.assertIs(is_graph((sources, targets), graph), True)
        self.assertEqual(target_order((sources, targets), graph), targets)
        self.assertEqual(names_above((sources, targets), graph, "t19"), sources + targets[:19])
        self.assertEqual(targets_below((sources, targets), graph, "s00"), targets)
        graph["t00"] = ["t19"]
        self.assertIs(is_graph((sources, targets), graph), False)

    def test_above_and_below_for_all_small_graphs(self):
        for project in SMALL:
            for graph in all_graphs(project):
                pairs = pairs_above(project, graph)
                for name in names_of(project):
                    above = sorted(x for x, t in pairs if t == name)
                    below = sorted(t for x, t in pairs if x == name)
                    self.assertEqual(names_above(project, graph, name), above)
                    self.assertEqual(targets_below(project, graph, name), below)

    def test_a_source_has_nothing_above_it(self):
        self.assertEqual(names_above(P, G, "s"), [])
        self.assertEqual(targets_below(P, G, "c"), [])

    def test_above_and_below_of_what_is_not_a_name(self):
        for function in (names_above, targets_below):
            for name in ["x", "", "A", None, 0, ["a"], ("a",), b"a"]:
                with self.assertRaises(InvalidName):
                    function(P, G, name)


class Cycles(unittest.TestCase):
    def test_all_small_dependencies(self):
        for project in SMALL:
            graphs = all_graphs(project)
            for dependencies in all_dependencies(project):
                cycle = cycle_in(project, dependencies)
                if dependencies in graphs:
                    self.assertIsNone(cycle)
                else:
                    self.check_cycle(project, dependencies, cycle)

    def check_cycle(self, project, dependencies, cycle):
        self.assertIs(cycle.__class__, list)
        self.assertTrue(cycle)
        self.assertEqual(len(set(cycle)), len(cycle))
        for at, target in enumerate(cycle):
            self.assertIn(target, project[1])
            self.assertIn(cycle[at - 1], dependencies[target], (dependencies, cycle))

    def test_one_long_cycle_with_targets_below_it(self):
        targets = numbered("t", 20)
        dependencies = {target: [targets[at - 1]] for at, target in enumerate(targets)}
        dependencies["t00"] = ["t14"]
        cycle = cycle_in(([], targets), dependencies)
        self.check_cycle(([], targets), dependencies, cycle)
        self.assertEqual(sorted(cycle), targets[:15])

    def test_dependencies_of_another_form(self):
        wrong = [
            {"a": [], "b": []}, {"a": ["s", "a"], "b": [], "c": []}, {"a": ["x"], "b": [], "c": []},
            {"a": ["a", "a"], "b": [], "c": []}, {"a": (), "b": [], "c": []},
            {"a": [], "b": [], "c": [], "s": []},
        ]
        for value in wrong + odd_values():
            with self.assertRaises(InvalidGraph):
                cycle_in(P, value)


class Order(unittest.TestCase):
    def test_all_small_graphs(self):
        for project in SMALL:
            sources, targets = project
            for graph in all_graphs(project):
                expected = []
                while len(expected) < len(targets):
                    ready = [
                        target for target in targets
                        if target not in expected and set(graph[target]) <= set(sources + expected)
                    ]
                    expected.append(min(ready))
                self.assertEqual(target_order(project, graph), expected)

    def test_the_least_target_comes_first_again_after_each_step(self):
        project = ([], ["a", "b", "c", "d"])
        graph = {"a": ["c"], "b": ["a"], "c": [], "d": []}
        self.assertEqual(target_order(project, graph), ["c", "a", "b", "d"])

    def test_dependencies_with_a_cycle_have_no_order(self):
        with self.assertRaises(InvalidGraph):
            target_order(P, {"a": ["b"], "b": ["a"], "c": []})


class Builds(unittest.TestCase):
    def test_all_statuses(self):
        for row in product(STATUSES, repeat=3):
            for changed in ([], ["s"], ["u"], ["s", "u"]):
                self.assertIs(is_build(P, (changed, dict(zip("abc", row)))), True)

    def test_values_that_are_not_builds(self):
        right = {"a": "new", "b": "same", "c": "idle"}
        wrong = [
            (["u", "s"], right), (["s", "s"], right), (["a"], right), (["x"], right),
            (("s",), right), ({"s": 1}, right), ("s", right), (None, right), ([None], right),
            [["s"], right], (["s"], right, []), (["s"],), (right, ["s"]), (["s"], dict(right, s="new")),
            (["s"], {"a": "new", "b": "new"}), (["s"], {"a": "new", "b": "new", "s": "new"}),
            (["s"], dict(right, a="New")), (["s"], dict(right, a="runs")), (["s"], dict(right, a="")),
            (["s"], dict(right, a=None)), (["s"], dict(right, a=["new"])),
            (["s"], dict(right, a=b"new")), (["s"], list(right.items())), (["s"], None),
        ]
        for value in wrong + odd_values():
            self.assertIs(is_build(P, value), False, repr(value))

    def test_a_project_without_targets_and_sources(self):
        self.assertIs(is_build(([], []), ([], {})), True)
        self.assertIs(is_build(([], []), ([], [])), False)


class Logs(unittest.TestCase):
    def setUp(self):
        self.build = (["s"], {"a": "failed", "b": "idle", "c": "idle"})

    def test_from_0_to_200_builds(self):
        for count, expected in [(0, True), (1, True), (2, True), (200, True), (201, False)]:
            self.assertIs(is_log(P, [self.build] * count), expected, count)

    def test_a_log_need_not_be_explained(self):
        idle = ([], {"a": "idle", "b": "idle", "c": "idle"})
        self.assertIs(is_log(P, [self.build, idle]), True)

    def test_values_that_are_not_logs(self):
        wrong = [
            (self.build,), self.build, {0: self.build}, [list(self.build)], [None],
            [self.build, None], [self.build, (["a"], self.build[1])], [[self.build]],
            [self.build] * 199 + [None], None,
        ]
        for value in wrong:
            self.assertIs(is_log(P, value), False, repr(value))


if __name__ == "__main__":
    unittest.main()
