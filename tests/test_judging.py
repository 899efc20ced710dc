"""Points 11, 29 and 30: judging obstructions and lean graphs."""

import unittest
from itertools import product

from tests.support import P, all_graphs, odd_values, subsets
from tests.worlds import (
    BARE,
    DRY,
    PAIR,
    big_world,
    explaining_graphs,
    graphs_of,
    lapses_by_definition,
    mixed_logs,
    needs_by_definition,
)
from whyreran.errors import InvalidGraph
from whyreran.explaining import explanation, find_obstruction, lean_explanation
from whyreran.judging import is_lean, is_obstruction

L = [
    (["s"], {"a": "failed", "b": "blocked", "c": "new"}),
    ([], {"a": "same", "b": "new", "c": "idle"}),
]
STUCK = [(["s"], {"a": "new", "b": "new", "c": "same"}),
         (["s"], {"a": "idle", "b": "idle", "c": "same"})]


def group_by_definition(project, log, choices):
    """Tell whether choices are those of an obstruction, in the words of point 11."""
    for target, index in choices.items():
        needs = dict(needs_by_definition(project, log, target))
        if index not in needs or not set(needs[index]) <= set(choices):
            return False
    return bool(choices)


class AllLogs(unittest.TestCase):
    def test_all_tuples_that_could_be_obstructions(self):
        for project, log in mixed_logs():
            if len(log) <= 3:
                found = False
                lapses = lapses_by_definition(log)
                for index, target in product(range(len(log)), project[1]):
                    expected = (index, target) in lapses
                    found = found or expected
                    value = ("idle", index, target)
                    self.assertIs(is_obstruction(project, log, value), expected, (log, value))
                for choices in self.all_choices(project, log):
                    expected = group_by_definition(project, log, choices)
                    found = found or expected
                    value = ("group", choices)
                    self.assertIs(is_obstruction(project, log, value), expected, (log, value))
                self.assertIs(found, not explaining_graphs(project, log), log)

    def all_choices(self, project, log):
        return [
            dict(zip(targets, row))
            for targets in subsets(project[1])
            for row in product(range(len(log)), repeat=len(targets))
        ]

    def test_all_graphs(self):
        for project, log in mixed_logs()[::2]:
            graphs = explaining_graphs(project, log)
            for graph in graphs_of(project):
                expected = graph in graphs and not any(
                    dict(graph, **{target: [x for x in graph[target] if x != name]}) in graphs
                    for target in graph for name in graph[target]
                )
                self.assertIs(is_lean(project, log, graph), expected, (log, graph))


class Obstructions(unittest.TestCase):
    def test_one_that_find_obstruction_does_not_return(self):
        log = [([], {"a": "new", "b": "same", "c": "idle"}),
               ([], {"a": "failed", "b": "blocked", "c": "idle"}),
               ([], {"a": "idle", "b": "same", "c": "idle"})]
        self.assertEqual(find_obstruction(P, log), ("idle", 2, "a"))
        for choices in ({"a": 0}, {"a": 1}, {"a": 0, "b": 0}, {"a": 1, "b": 0}, {"b": 1, "a": 0}):
            self.assertIs(is_obstruction(P, log, ("group", choices)), True, choices)
        for choices in ({"b": 0}, {"a": 2}, {"c": 0}, {"a": 0, "c": 0}, {"b": 2, "a": 0}):
            self.assertIs(is_obstruction(P, log, ("group", choices)), False, choices)

    def test_the_order_of_the_choices_does_not_matter(self):
        for choices in ({"a": 0, "b": 0}, {"b": 0, "a": 0}):
            self.assertIs(is_obstruction(P, STUCK, ("group", choices)), True)

    def test_tuples_of_another_form(self):
        wrong = [
            ("group", {}), ("group", [("a", 0)]), ("group", {"a": 0, "b": 0}, None), ("group",),
            ["group", {"a": 0, "b": 0}], ("Group", {"a": 0, "b": 0}), ("idle", {"a": 0, "b": 0}),
            ("group", {"a": False, "b": False}), ("group", {"a": 0.0, "b": 0}),
            ("group", {"a": "0", "b": 0}), ("group", {"a": None, "b": 0}),
            ("group", {"a": 0, "b": 0, "s": 0}), ("group", {"a": 0, "b": 0, "x": 0}),
            ("group", {"a": 0, "b": 0, None: 0}), ("group", {"a": 0, "b": 0, ("a",): 0}),
            ("group", {"a": 2, "b": 0}), ("group", {"a": -1, "b": 0}), ("group", {"a": -2, "b": 0}),
            ("group", {"a": 10 ** 29, "b": 0}), ({"a": 0, "b": 0}, "group"), (None, None),
            ("group", {"a": 0, "b": [0]}), ("group", {"a": 0, "b": {}}), (b"group", {"a": 0, "b": 0}),
        ]
        for value in wrong:
            self.assertIs(is_obstruction(P, STUCK, value), False, repr(value))

    def test_idle_tuples_of_another_form(self):
        log = [(["s"], {"a": "idle", "b": "failed", "c": "same"}),
               ([], {"a": "idle", "b": "idle", "c": "idle"})]
        self.assertIs(is_obstruction(P, log, ("idle", 1, "b")), True)
        wrong = [
            ("idle", 0, "b"), ("idle", 1, "a"), ("idle", 1, "s"), ("idle", 1, "x"), ("idle", 2, "b"),
            ("idle", -1, "b"), ("idle", True, "b"), ("idle", 1.0, "b"), ("idle", "1", "b"),
            ("idle", None, "b"), ("idle", 1, None), ("idle", 1, ["b"]), ("idle", 1), ("idle", "b", 1),
            ["idle", 1, "b"], ("group", 1, "b"), ("idle", 1, "b", None), ("IDLE", 1, "b"),
            ("idle", 10 ** 29, "b"), (("idle", 1, "b"),), (b"idle", 1, "b"), ("idle", [1], "b"),
        ]
        for value in wrong:
            self.assertIs(is_obstruction(P, log, value), False, repr(value))

    def test_any_value(self):
        for log in (L, STUCK, []):
            for value in odd_values():
                self.assertIs(is_obstruction(P, log, value), False, repr(value))
                for other in odd_values():
                    self.assertIs(is_obstruction(P, log, ("group", value)), False, repr(value))
                    self.assertIs(is_obstruction(P, log, (value, other)), False)
                    self.assertIs(is_obstruction(P, log, ("idle", value, other)), False)
                    self.assertIs(is_obstruction(P, log, (other, 0, value)), False)

    def test_an_explained_log_has_none(self):
        for value in [("group", {"a": 0}), ("idle", 0, "a"), ("idle", 1, "a"), ("group", {"b": 0})]:
            self.assertIs(is_obstruction(P, L, value), False)
            self.assertIs(is_obstruction(P, [], value), False)

    def test_a_need_that_is_empty(self):
        log = [([], {"a": "idle", "b": "blocked", "c": "idle"})]
        self.assertIs(is_obstruction(P, log, ("group", {"b": 0})), True)
        self.assertIs(is_obstruction(BARE, [([], {"a": "new", "b": "idle"})], ("group", {"a": 0})), True)

    def test_twenty_targets_and_200_builds(self):
        project, _, log = big_world(5, 20, 20, 200)
        changed, statuses = log[150]
        log[150] = ([], {target: "same" for target in project[1]})
        found = find_obstruction(project, log)
        self.assertIs(is_obstruction(project, log, found), True)
        log[150] = (changed, statuses)
        self.assertIs(is_obstruction(project, log, found), False)


class Lean(unittest.TestCase):
    def test_the_graph_must_explain_the_log(self):
        rows = [({"a": ["s"], "b": ["a"], "c": ["s"]}, True),
                ({"a": ["s"], "b": ["a", "s"], "c": ["s"]}, False),
                ({"a": ["s"], "b": ["s"], "c": ["s"]}, False),
                ({"a": ["s"], "b": [], "c": []}, False),
                ({"a": ["s"], "b": ["a"], "c": ["s", "u"]}, False),
                ({"a": ["c"], "b": ["a"], "c": ["s"]}, True)]
        for graph, expected in rows:
            self.assertIs(is_lean(P, L, graph), expected, graph)

    def test_a_dependency_that_is_needed_in_one_of_several_needs(self):
        log = [(["s"], {"a": "new", "b": "idle", "c": "idle"}),
               (["s", "u"], {"a": "new", "b": "idle", "c": "idle"})]
        for names, expected in [(["s"], True), (["s", "u"], False), (["u"], False)]:
            self.assertIs(is_lean(P, log, {"a": names, "b": [], "c": []}), expected)
        log[0] = (["u"], log[0][1])
        log.append((["s"], log[0][1]))
        self.assertIs(is_lean(P, log, {"a": ["s", "u"], "b": [], "c": []}), True)

    def test_the_empty_log(self):
        for graph in all_graphs(PAIR):
            self.assertIs(is_lean(PAIR, [], graph), graph == {"a": [], "b": []})
        self.assertIs(is_lean(DRY, [(["s"], {})], {}), True)

    def test_a_log_that_no_graph_explains(self):
        for log in ([([], {"a": "new", "b": "idle"})],
                    [(["s"], {"a": "failed", "b": "idle"}), ([], {"a": "idle", "b": "idle"})]):
            for graph in all_graphs(PAIR):
                self.assertIs(is_lean(PAIR, log, graph), False)

    def test_large_logs(self):
        project, graph, log = big_world(9, 20, 20, 200)
        lean = lean_explanation(project, log)
        self.assertIs(is_lean(project, log, lean), True)
        self.assertIs(is_lean(project, log, explanation(project, log)), False)
        self.assertIs(is_lean(project, log, {target: [] for target in graph}), False)

    def test_wrong_graphs(self):
        wrong = [{"a": ["b"], "b": ["a"], "c": []}, {"a": [], "b": []}, {}, None, {"a": ["a"]}]
        for log in (L, STUCK):
            for graph in wrong:
                with self.assertRaises(InvalidGraph):
                    is_lean(P, log, graph)


if __name__ == "__main__":
    unittest.main()
