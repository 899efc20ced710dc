"""Points 55 to 57: settled logs, pairs of graphs that show that a log is not settled, settling logs."""

import random
import unittest

from tests.support import P, odd_values
from tests.worlds import (
    BARE,
    DRY,
    ONE,
    PAIR,
    PROJECTS,
    TRIO,
    VOID,
    big_world,
    builds_of_graph,
    chain_world,
    dense_world,
    explaining_graphs,
    graphs_of,
    mixed_logs,
    numbered_project,
    random_plans,
)
from whyreran.builds import explains, first_mismatch, run_builds
from whyreran.equivalence import have_same_logs, is_superfluous
from whyreran.errors import InvalidGraph, InvalidLog, InvalidProject, NotExplained, TooLarge
from whyreran.explaining import explanation, find_obstruction, lean_explanation
from whyreran.projects import is_build, is_graph, is_log
from whyreran.settling import is_settled, settling_log, unsettled_pair

L = [
    (["s"], {"a": "failed", "b": "blocked", "c": "new"}),
    ([], {"a": "same", "b": "new", "c": "idle"}),
]
WORLDS = [chain_world(24, 16), dense_world(24, 16), chain_world(1, 16), dense_world(1, 16),
          dense_world(39, 1), dense_world(0, 16)]
WORLDS += [big_world(seed, 24, 16, 1)[:2] for seed in range(6)]
WORLDS += [big_world(seed, seed, 16, 1)[:2] for seed in range(6)]


def layered_world(width):
    """Return a graph of 16 targets in which the targets of a layer depend on all of the one before."""
    project = numbered_project(24, 16)
    targets = project[1]
    graph = {}
    for at, target in enumerate(targets):
        start = at // width * width
        graph[target] = list(project[0]) if start == 0 else targets[start - width:start]
    return project, graph


class AllLogs(unittest.TestCase):
    def check_pair(self, project, log, graphs):
        found = unsettled_pair(project, log)
        settled = len({builds_of_graph(project, graph) for graph in graphs}) == 1
        self.assertIs(is_settled(project, log), settled, log)
        self.assertEqual(found is None, settled, log)
        if found is not None:
            self.assertIs(found.__class__, tuple)
            graph, other, build = found
            self.assertIn(graph, graphs)
            self.assertIn(other, graphs)
            self.assertEqual([list(x) for x in (graph, other)], [project[1]] * 2)
            self.assertTrue(is_build(project, build))
            found = [explains(project, x, [build]) for x in (graph, other)]
            self.assertEqual(found, [True, False], (log, build))
        return settled

    def test_settled_logs_and_pairs(self):
        seen = []
        for project, log in mixed_logs():
            graphs = explaining_graphs(project, log)
            if graphs:
                seen.append(self.check_pair(project, log, graphs))
        self.assertGreater(seen.count(True), 20)
        self.assertGreater(seen.count(False), 200)

    def test_longer_logs_and_parts_of_settling_logs(self):
        rng = random.Random(3)
        seen = []
        for graph in graphs_of(TRIO):
            log = run_builds(TRIO, graph, random_plans(rng, TRIO, 12))
            seen.append(self.check_pair(TRIO, log, explaining_graphs(TRIO, log)))
            log = settling_log(TRIO, graph)
            # All builds before the failing ones have no broken targets, so any of them can be left out.
            del log[rng.randrange(len([build for build in log if "failed" not in build[1].values()]))]
            seen.append(self.check_pair(TRIO, log, explaining_graphs(TRIO, log)))
        self.assertGreater(seen.count(True), 20)
        self.assertGreater(seen.count(False), 20)

    def test_logs_that_no_graph_explains(self):
        for project, log in mixed_logs():
            if not explaining_graphs(project, log):
                expected = find_obstruction(project, log)
                for function in (is_settled, unsettled_pair):
                    with self.assertRaises(NotExplained) as caught:
                        function(project, log)
                    self.assertEqual(caught.exception.obstruction, expected)

    def test_settling_logs(self):
        for project in PROJECTS:
            for graph in graphs_of(project):
                log = settling_log(project, graph)
                self.assertTrue(is_log(project, log))
                self.assertIs(is_settled(project, log), True, graph)
                self.assertIsNone(unsettled_pair(project, log))
                graphs = explaining_graphs(project, log)
                self.assertIn(graph, graphs)
                found = {builds_of_graph(project, other) for other in graphs}
                self.assertEqual(found, {builds_of_graph(project, graph)}, graph)


class LargeGraphs(unittest.TestCase):
    def test_settling_logs_of_sixteen_targets(self):
        for project, graph in WORLDS + [layered_world(width) for width in (2, 4, 8)]:
            log = settling_log(project, graph)
            self.assertTrue(is_log(project, log))
            self.assertIsNone(first_mismatch(project, graph, log))
            self.assertIs(is_settled(project, log), True)
            for found in (explanation(project, log), lean_explanation(project, log)):
                self.assertIs(have_same_logs(project, graph, found), True)
            self.check_changed_graphs(project, graph, log)

    def check_changed_graphs(self, project, graph, log):
        for target in project[1]:
            for name in graph[target][::5]:
                fewer = dict(graph, **{target: [x for x in graph[target] if x != name]})
                expected = is_superfluous(project, graph, target, name)
                self.assertIs(explains(project, fewer, log), expected, (target, name))
            for name in [x for x in project[0] + project[1] if x not in graph[target]][::5]:
                more = dict(graph, **{target: sorted(graph[target] + [name])})
                if name != target and is_graph(project, more):
                    same = have_same_logs(project, graph, more)
                    self.assertIs(explains(project, more, log), same, (target, name))

    def test_logs_of_200_builds(self):
        for seed, sources, targets in [(1, 20, 20), (2, 20, 20), (3, 30, 10), (4, 2, 20), (5, 2, 5)]:
            project, graph, log = big_world(seed, sources, targets, 200)
            found = unsettled_pair(project, log)
            self.assertEqual(found is None, is_settled(project, log))
            if found is None:
                same = [have_same_logs(project, graph, other)
                        for other in (explanation(project, log), lean_explanation(project, log))]
                self.assertEqual(same, [True, True])
            else:
                one, two, build = found
                logs = [log, [build]]
                self.assertEqual([explains(project, one, x) for x in logs], [True, True])
                self.assertEqual([explains(project, two, x) for x in logs], [True, False])

    def test_a_settling_log_that_is_padded_to_200_builds(self):
        project, graph = WORLDS[6]
        log = settling_log(project, graph)
        plans = random_plans(random.Random(6), project, 200 - len(log))
        padded = run_builds(project, graph, plans)
        # A build with all sources changed and all runs new leaves nothing pending behind it.
        padded = padded[:-1] + [run_builds(project, graph, [(project[0], {
            target: "new" for target in project[1]})])[0]]
        padded += log
        self.assertEqual(len(padded), 200)
        self.assertTrue(explains(project, graph, padded))
        self.assertIs(is_settled(project, padded), True)


class Edges(unittest.TestCase):
    def test_the_empty_log(self):
        for project in PROJECTS:
            self.assertIs(is_settled(project, []), project in (BARE, DRY, VOID))
        graph, other, build = unsettled_pair(ONE, [])
        self.assertEqual([explains(ONE, x, [build]) for x in (graph, other)], [True, False])

    def test_projects_without_sources_or_targets(self):
        idle = ([], {"a": "idle", "b": "idle"})
        self.assertIs(is_settled(BARE, [idle] * 200), True)
        self.assertIs(is_settled(DRY, [(["s"], {})]), True)
        for project, graph in [(BARE, {"a": ["b"], "b": []}), (DRY, {}), (VOID, {})]:
            log = settling_log(project, graph)
            self.assertIs(explains(project, graph, log), True)
            self.assertIs(is_settled(project, log), True)

    def test_a_target_that_may_be_dead(self):
        log = [([], {"a": "idle", "b": "idle"})]
        self.assertIs(is_settled(PAIR, log), False)
        log = [(["s"], {"a": "idle", "b": "new"})]
        self.assertIs(is_settled(PAIR, log), True)
        log = [(["s"], {"a": "idle", "b": "same"})]
        self.assertIs(is_settled(PAIR, log), False)

    def test_dead_targets_with_dependencies(self):
        graph = {"a": [], "b": ["a"], "c": ["a", "b", "s"]}
        log = settling_log(P, graph)
        self.assertTrue(explains(P, graph, log))
        self.assertIs(is_settled(P, log), True)
        self.assertTrue(explains(P, {"a": ["b"], "b": [], "c": ["s"]}, log))
        self.assertFalse(explains(P, {"a": [], "b": [], "c": ["s", "u"]}, log))

    def test_the_log_of_the_document(self):
        self.assertIs(is_settled(P, L), False)
        graph, other, build = unsettled_pair(P, L)
        self.assertEqual([explains(P, x, L) for x in (graph, other)], [True, True])

    def test_sixteen_and_seventeen_targets(self):
        for targets in (16, 17, 20):
            project, graph = chain_world(2, targets)
            if targets == 16:
                self.assertTrue(explains(project, graph, settling_log(project, graph)))
            else:
                with self.assertRaises(TooLarge) as caught:
                    settling_log(project, graph)
                self.assertEqual(caught.exception.limit, 16)
                self.assertEqual(vars(caught.exception), {"limit": 16})

    def test_the_order_of_the_errors(self):
        project, graph = chain_world(2, 17)
        for value in odd_values() + [dict(graph, t00=["t16"])]:
            with self.assertRaises(InvalidGraph):
                settling_log(project, value)
        with self.assertRaises(InvalidProject):
            settling_log((["s"], ["s"]), graph)
        unexplained = [([], {"a": "new", "b": "idle", "c": "idle"})]
        for function in (is_settled, unsettled_pair):
            with self.assertRaises(InvalidProject):
                function(None, unexplained)
            with self.assertRaises(InvalidLog):
                function(P, unexplained + [None])
            with self.assertRaises(NotExplained) as caught:
                function(P, unexplained)
            self.assertEqual(caught.exception.obstruction, ("group", {"a": 0}))


if __name__ == "__main__":
    unittest.main()
