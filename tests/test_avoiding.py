"""Points 35 to 38: names above in every graph, graphs that avoid names, and stuck targets."""

import unittest
from itertools import product

from tests.support import P, odd_values, subsets
from tests.worlds import (
    DRY,
    PAIR,
    TRIO,
    above_by_paths,
    big_world,
    closure_by_definition,
    explaining_graphs,
    mixed_logs,
    needs_by_definition,
)
from whyreran.avoiding import (
    avoiding_graph,
    certain_above,
    certain_below,
    is_stuck,
    stuck_choices,
)
from whyreran.builds import explains
from whyreran.errors import InvalidName, InvalidNames, InvalidTarget, NotExplained
from whyreran.explaining import find_obstruction

L = [
    (["s"], {"a": "failed", "b": "blocked", "c": "new"}),
    ([], {"a": "same", "b": "new", "c": "idle"}),
]


def surely_above(graphs, target):
    return set.intersection(*[above_by_paths(graph, target) for graph in graphs])


def stuck_by_definition(project, log, names, value):
    """Tell what is_stuck tells of a dict from targets to indexes, in the words of point 38."""
    for target, index in value.items():
        needs = dict(needs_by_definition(project, log, target))
        if target in names or index not in needs:
            return False
        if not set(needs[index]) <= set(value) | set(names):
            return False
    return True


class AllLogs(unittest.TestCase):
    def test_names_above_and_targets_below_in_all_graphs(self):
        for project, log in mixed_logs():
            graphs = explaining_graphs(project, log)
            if graphs:
                above = {target: surely_above(graphs, target) for target in project[1]}
                for target in project[1]:
                    self.assertEqual(certain_above(project, log, target), sorted(above[target]))
                for name in project[0] + project[1]:
                    below = [target for target in project[1] if name in above[target]]
                    self.assertEqual(certain_below(project, log, name), below, (log, name))

    def test_graphs_that_avoid_any_names(self):
        for project, log in mixed_logs():
            graphs = explaining_graphs(project, log)
            for names in subsets(project[0] + project[1]) if graphs else []:
                graph = avoiding_graph(project, log, names[::-1])
                self.assertIn(graph, graphs)
                self.assertEqual(list(graph), project[1])
                for target in closure_by_definition(project, log, names):
                    self.assertFalse(above_by_paths(graph, target) & set(names), (log, names))

    def test_stuck_choices_for_any_names(self):
        for project, log in mixed_logs():
            graphs = explaining_graphs(project, log)
            for names in subsets(project[0] + project[1]) if graphs else []:
                free = closure_by_definition(project, log, names)
                keys = [t for t in project[1] if t not in free and t not in names]
                held = set(keys) | set(names)
                expected = {
                    key: min(i for i, need in needs_by_definition(project, log, key)
                             if set(need) <= held)
                    for key in keys
                }
                found = stuck_choices(project, log, names[::-1])
                self.assertEqual(found, expected, (log, names))
                self.assertEqual(list(found), keys)
                self.assertIs(is_stuck(project, log, names, found), True)
                for target in found:
                    for graph in graphs:
                        self.assertTrue(above_by_paths(graph, target) & set(names))

    def test_is_stuck_for_all_dicts(self):
        for project, log in mixed_logs()[::2]:
            if len(log) <= 2:
                for names in subsets(project[0] + project[1])[::2]:
                    for targets in subsets(project[1]):
                        for row in product(range(len(log)), repeat=len(targets)):
                            value = dict(zip(targets, row))
                            expected = stuck_by_definition(project, log, names, value)
                            found = is_stuck(project, log, names, value)
                            self.assertIs(found, expected, (log, names, value))

    def test_logs_that_no_graph_explains(self):
        for project, log in mixed_logs()[::3]:
            if not explaining_graphs(project, log):
                expected = find_obstruction(project, log)
                calls = [(certain_above, target) for target in project[1]]
                calls += [(certain_below, name) for name in project[0] + project[1]]
                calls += [(avoiding_graph, []), (stuck_choices, project[0])]
                for function, value in calls:
                    with self.assertRaises(NotExplained) as caught:
                        function(project, log, value)
                    self.assertEqual(caught.exception.obstruction, expected)
                self.assertIs(is_stuck(project, log, [], {}), True)
                if expected[0] == "group":
                    self.assertIs(is_stuck(project, log, [], expected[1]), True)


class LargeLogs(unittest.TestCase):
    def test_a_log_of_200_builds(self):
        project, graph, log = big_world(8, 20, 20, 200)
        for target in project[1][::5]:
            above = certain_above(project, log, target)
            self.assertLessEqual(set(above), above_by_paths(graph, target))
            for name in above[:4]:
                self.assertIn(target, certain_below(project, log, name))
        for names in ([], ["s01"], ["t03", "s19", "s02"], project[0]):
            found = avoiding_graph(project, log, names)
            self.assertTrue(explains(project, found, log))
            free = closure_by_definition(project, log, names)
            for target in free:
                self.assertFalse(above_by_paths(found, target) & set(names))
            choices = stuck_choices(project, log, names)
            self.assertEqual(sorted(free + list(choices) + names), sorted(
                project[1] + [name for name in names if name in project[0]]))
            self.assertIs(is_stuck(project, log, names, choices), True)


class AboveAndBelow(unittest.TestCase):
    def test_the_empty_log(self):
        self.assertEqual(certain_above(P, [], "a"), [])
        self.assertEqual(certain_below(P, [], "s"), [])
        self.assertEqual(certain_below(P, [], "a"), [])
        self.assertEqual(stuck_choices(P, [], ["s", "a"]), {})
        self.assertEqual(certain_below(DRY, [], "u"), [])

    def test_a_name_above_need_not_be_a_possible_dependency(self):
        log = [(["s"], {"a": "same", "b": "idle", "c": "idle"}),
               (["s"], {"a": "new", "b": "new", "c": "idle"})]
        self.assertEqual(certain_above(P, log, "b"), ["a", "s"])
        self.assertEqual(certain_below(P, log, "s"), ["a", "b"])

    def test_a_target_is_not_above_itself(self):
        log = [(["s"], {"a": "new", "b": "idle", "c": "idle"})]
        self.assertEqual(certain_above(P, log, "a"), ["s"])
        self.assertEqual(certain_below(P, log, "a"), [])

    def test_wrong_arguments(self):
        for target in ("s", "x", "", None, 0, ["a"]):
            with self.assertRaises(InvalidTarget):
                certain_above(P, L, target)
        for name in ("x", "", None, 0, ["a"]):
            with self.assertRaises(InvalidName):
                certain_below(P, L, name)


class AvoidingAndStuck(unittest.TestCase):
    def test_the_target_itself_as_a_name(self):
        self.assertEqual(stuck_choices(P, L, ["a", "b", "c"]), {})
        self.assertEqual(stuck_choices(P, L, ["a"]), {"b": 0})
        self.assertTrue(explains(P, avoiding_graph(P, L, ["c", "b", "a"]), L))

    def test_the_least_build_of_several(self):
        log = [(["s", "u"], {"a": "new", "b": "idle", "c": "idle"}),
               (["s"], {"a": "same", "b": "idle", "c": "idle"}),
               (["s"], {"a": "same", "b": "idle", "c": "idle"})]
        self.assertEqual(stuck_choices(P, log, ["s"]), {"a": 1})
        self.assertEqual(stuck_choices(P, log, ["u", "s"]), {"a": 0})
        self.assertEqual(stuck_choices(P, log, ["u"]), {})

    def test_values_that_are_no_such_dicts(self):
        log = [(["s"], {"a": "new", "b": "new", "c": "idle"})]
        self.assertIs(is_stuck(P, log, ["s"], {"a": 0}), False)
        self.assertIs(is_stuck(P, log, ["s", "b"], {"a": 0}), True)
        self.assertIs(is_stuck(P, log, ["s"], {"b": 0, "a": 0}), True)
        wrong = [
            {"a": 1, "b": 0}, {"a": -1, "b": 0}, {"a": False, "b": 0}, {"a": 0.0, "b": 0},
            {"a": "0", "b": 0}, {"a": None, "b": 0}, {"a": 0, "b": 0, "s": 0}, {"c": 0},
            {"a": 0, "b": 0, "x": 0}, {"a": 0, "b": 0, None: 0}, [("a", 0), ("b", 0)],
            {"a": 0, "b": 10 ** 29}, {"a": 0, "b": [0]}, {"a": 0, "b": 0, ("a",): 0},
        ]
        for value in wrong:
            self.assertIs(is_stuck(P, log, ["s"], value), False, value)
        self.assertIs(is_stuck(P, log, ["s", "a"], {"a": 0, "b": 0}), False)

    def test_any_value(self):
        for names in ([], ["s"], ["a", "b", "c", "s", "u"]):
            for value in odd_values():
                empty = isinstance(value, dict) and not value
                self.assertIs(is_stuck(P, L, names, value), empty, repr(value))
                self.assertIs(is_stuck(P, L, names, {"a": value, "b": 0}), False, repr(value))

    def test_wrong_lists_of_names(self):
        wrong = [["x"], ["s", "s"], ["a", "a"], ("s",), "s", None, {"s": 1}, [None], [["s"]], 0]
        for names in wrong:
            for function in (avoiding_graph, stuck_choices):
                with self.assertRaises(InvalidNames):
                    function(P, L, names)
            with self.assertRaises(InvalidNames):
                is_stuck(P, L, names, {})

    def test_small_projects(self):
        self.assertEqual(avoiding_graph(DRY, [], ["s"]), {})
        self.assertEqual(stuck_choices(DRY, [], ["s"]), {})
        self.assertEqual(avoiding_graph(PAIR, [], ["s"])["a"], [])
        self.assertEqual(avoiding_graph(TRIO, [], ["s", "b"])["c"], ["a"])


if __name__ == "__main__":
    unittest.main()
