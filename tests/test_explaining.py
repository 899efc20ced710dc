"""Points 4, 11, 26, 27, 28 and 30: explanations, obstructions and lean explanations."""

import unittest

from tests.support import P
from tests.worlds import (
    BARE,
    DRY,
    PAIR,
    TRIO,
    VOID,
    big_world,
    closure_by_definition,
    explaining_graphs,
    lapses_by_definition,
    mixed_logs,
    needs_by_definition,
    permitted_by_definition,
    some_logs,
)
from whyreran.builds import explains
from whyreran.errors import NotExplained
from whyreran.explaining import explanation, find_obstruction, is_explained, lean_explanation
from whyreran.judging import is_lean, is_obstruction

L = [
    (["s"], {"a": "failed", "b": "blocked", "c": "new"}),
    ([], {"a": "same", "b": "new", "c": "idle"}),
]


def obstruction_by_definition(project, log):
    """Return what point 28 asks for, in its own words."""
    lapses = lapses_by_definition(log)
    if lapses:
        return ("idle",) + min(lapses)
    keys = sorted(set(project[1]) - set(closure_by_definition(project, log, [])))
    if not keys:
        return None
    return ("group", {
        key: min(i for i, names in needs_by_definition(project, log, key) if set(names) <= set(keys))
        for key in keys
    })


def explanation_by_definition(project, log):
    """Return what point 27 asks for, in its own words."""
    order = closure_by_definition(project, log, [])
    return {
        target: [
            name for name in permitted_by_definition(project, log, target)
            if name in project[0] or order.index(name) < order.index(target)
        ]
        for target in project[1]
    }


class AllLogs(unittest.TestCase):
    def test_a_log_is_explained_if_and_only_if_some_graph_fits(self):
        seen = set()
        for project, log in mixed_logs():
            expected = bool(explaining_graphs(project, log))
            seen.add(expected)
            self.assertIs(is_explained(project, log), expected, log)
            self.assertIs(find_obstruction(project, log) is None, expected, log)
        self.assertEqual(seen, {True, False})

    def test_the_explanation_explains_the_log(self):
        for project, log in mixed_logs():
            graphs = explaining_graphs(project, log)
            if graphs:
                graph = explanation(project, log)
                self.assertIn(graph, graphs)
                self.assertEqual(graph, explanation_by_definition(project, log))
                self.assertEqual(list(graph), project[1])

    def test_the_obstruction_is_that_of_the_document(self):
        for project, log in mixed_logs():
            found = find_obstruction(project, log)
            self.assertEqual(found, obstruction_by_definition(project, log), log)
            if found is not None:
                self.assertTrue(is_obstruction(project, log, found))
                self.assertIs(found.__class__, tuple)
            if found is not None and found[0] == "group":
                self.assertEqual(list(found[1]), sorted(found[1]))

    def test_logs_that_no_graph_explains(self):
        for project, log in mixed_logs():
            if not explaining_graphs(project, log):
                for function in (explanation, lean_explanation):
                    with self.assertRaises(NotExplained) as caught:
                        function(project, log)
                    self.assertEqual(
                        caught.exception.obstruction, find_obstruction(project, log)
                    )

    def test_the_lean_explanation_is_a_least_one(self):
        for project, log in mixed_logs():
            graphs = explaining_graphs(project, log)
            if graphs:
                graph = lean_explanation(project, log)
                self.assertIn(graph, graphs)
                self.assertEqual(list(graph), project[1])
                for target in graph:
                    for name in graph[target]:
                        others = [other for other in graph[target] if other != name]
                        self.assertNotIn(dict(graph, **{target: others}), graphs)


class Explained(unittest.TestCase):
    def test_the_empty_log(self):
        for project in (PAIR, TRIO, BARE, DRY, VOID, P):
            self.assertIs(is_explained(project, []), True)
            self.assertIsNone(find_obstruction(project, []))
        self.assertEqual(explanation(PAIR, []), {"a": ["s"], "b": ["a", "s"]})
        self.assertEqual(lean_explanation(PAIR, []), {"a": [], "b": []})
        self.assertEqual(explanation(BARE, []), {"a": [], "b": ["a"]})

    def test_no_targets(self):
        log = [(["s", "u"], {}), ([], {})]
        self.assertIs(is_explained(DRY, log), True)
        self.assertEqual(explanation(DRY, log), {})
        self.assertEqual(lean_explanation(DRY, log), {})
        self.assertIs(is_explained(VOID, [([], {})]), True)

    def test_no_sources(self):
        self.assertIs(is_explained(BARE, [([], {"a": "idle", "b": "idle"})]), True)
        self.assertEqual(
            find_obstruction(BARE, [([], {"a": "same", "b": "idle"})]), ("group", {"a": 0})
        )
        self.assertEqual(
            find_obstruction(BARE, [([], {"a": "new", "b": "new"})]), ("group", {"a": 0, "b": 0})
        )

    def test_a_target_that_ran_without_a_cause(self):
        log = [([], {"a": "same", "b": "idle", "c": "idle"})]
        self.assertIs(is_explained(P, log), False)
        self.assertEqual(find_obstruction(P, log), ("group", {"a": 0}))

    def test_a_pending_target_that_is_idle(self):
        log = [(["s"], {"a": "idle", "b": "failed", "c": "failed"}),
               ([], {"a": "idle", "b": "same", "c": "idle"}),
               (["s"], {"a": "failed", "b": "idle", "c": "idle"}),
               ([], {"a": "idle", "b": "idle", "c": "idle"})]
        self.assertEqual(find_obstruction(P, log), ("idle", 1, "c"))
        self.assertEqual(find_obstruction(P, log[2:]), ("idle", 1, "a"))

    def test_the_least_index_comes_before_the_least_target(self):
        failed = {"a": "failed", "b": "failed", "c": "failed"}
        log = [([], failed), ([], dict(failed, b="idle", c="idle")), ([], dict(failed, a="idle"))]
        self.assertEqual(find_obstruction(P, log), ("idle", 1, "b"))

    def test_an_idle_pending_target_comes_before_a_group(self):
        log = [([], {"a": "failed", "b": "new", "c": "new"}),
               ([], {"a": "same", "b": "idle", "c": "failed"}),
               ([], {"a": "idle", "b": "idle", "c": "idle"})]
        self.assertEqual(find_obstruction(P, log), ("idle", 2, "c"))

    def test_a_group_names_the_first_build_with_a_stuck_need(self):
        log = [(["s"], {"a": "new", "b": "idle", "c": "idle"}),
               ([], {"a": "new", "b": "new", "c": "idle"}),
               ([], {"a": "new", "b": "new", "c": "idle"})]
        self.assertEqual(find_obstruction(P, log), ("group", {"a": 1, "b": 1}))

    def test_a_closure_in_another_order_than_that_of_the_names(self):
        log = [(["s"], {"a": "blocked", "b": "failed", "c": "new"})]
        graph = {"a": ["b", "s", "u"], "b": ["s", "u"], "c": ["s", "u"]}
        self.assertEqual(explanation(P, log), graph)

    def test_statuses_in_another_order_of_insertion(self):
        for project, log in mixed_logs():
            turned = [
                (changed, {target: statuses[target] for target in reversed(list(statuses))})
                for changed, statuses in log
            ]
            found = find_obstruction(project, turned)
            self.assertEqual(repr(found), repr(find_obstruction(project, log)))
            if found is None:
                self.assertEqual(
                    repr(explanation(project, turned)), repr(explanation(project, log))
                )

    def test_twenty_targets_and_200_builds(self):
        for seed in range(3):
            project, graph, log = big_world(seed, 20, 20, 200)
            self.assertIs(is_explained(project, log), True)
            found = explanation(project, log)
            self.assertTrue(explains(project, found, log))
            self.assertEqual(found, explanation_by_definition(project, log))
            lean = lean_explanation(project, log)
            self.assertTrue(explains(project, lean, log))
            self.assertTrue(is_lean(project, log, lean))
            for number in range(0, 200, 23):
                spoiled = list(log)
                changed, statuses = log[number]
                spoiled[number] = (changed, dict(statuses, t05="same", t11="idle"))
                expected = obstruction_by_definition(project, spoiled)
                self.assertEqual(find_obstruction(project, spoiled), expected)

    def test_results_are_of_the_plain_kinds(self):
        self.assertIs(is_explained(P, L), True)
        word, choices = find_obstruction(P, [([], {"a": "new", "b": "idle", "c": "idle"})])
        self.assertEqual((word, choices.__class__, choices["a"].__class__), ("group", dict, int))

    def test_longer_logs(self):
        for project, log in [(TRIO, log) for log in some_logs(TRIO, 77, 150, 12)]:
            expected = bool(explaining_graphs(project, log))
            self.assertIs(is_explained(project, log), expected)


if __name__ == "__main__":
    unittest.main()
