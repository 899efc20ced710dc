"""Points 31 to 34: standings of single dependencies, and graphs with and without one."""

import unittest

from tests.support import P
from tests.worlds import (
    BARE,
    DRY,
    ONE,
    PAIR,
    big_world,
    closure_by_definition,
    excluding_builds,
    explaining_graphs,
    mixed_logs,
    needs_by_definition,
)
from whyreran.builds import explains
from whyreran.deciding import (
    certain_dependencies,
    graph_with,
    graph_without,
    possible_dependencies,
    standing_of,
)
from whyreran.errors import InvalidName, InvalidTarget, NotExplained
from whyreran.explaining import find_obstruction

L = [
    (["s"], {"a": "failed", "b": "blocked", "c": "new"}),
    ([], {"a": "same", "b": "new", "c": "idle"}),
]


def pairs_of(project):
    names = sorted(project[0] + project[1])
    return [(target, name) for target in project[1] for name in names if name != target]


def standing_by_graphs(graphs, target, name):
    found = {name in graph[target] for graph in graphs}
    return "open" if len(found) == 2 else ("certain" if True in found else "impossible")


def standing_by_closures(project, log, target, name):
    """Return the standing in the words of the second half of point 31."""
    without = closure_by_definition(project, log, [target])
    if excluding_builds(log, target, name) or (name in project[1] and name not in without):
        return "impossible"
    # What joins the closure before the target does not need it.
    held = (set(project[0]) | set(without)) - {name}
    needs = [set(names) for _, names in needs_by_definition(project, log, target)]
    return "open" if all(need & held for need in needs) else "certain"


class AllLogs(unittest.TestCase):
    def test_standings_are_those_of_all_graphs(self):
        seen = set()
        for project, log in mixed_logs():
            graphs = explaining_graphs(project, log)
            for target, name in pairs_of(project) if graphs else []:
                expected = standing_by_graphs(graphs, target, name)
                seen.add(expected)
                found = standing_of(project, log, target, name)
                self.assertEqual(found, expected, (log, target, name))
        self.assertEqual(seen, {"certain", "open", "impossible"})

    def test_certain_and_possible_dependencies(self):
        for project, log in mixed_logs():
            graphs = explaining_graphs(project, log)
            for target in project[1] if graphs else []:
                rows = [set(graph[target]) for graph in graphs]
                certain = sorted(set.intersection(*rows))
                possible = sorted(set.union(*rows))
                self.assertEqual(certain_dependencies(project, log, target), certain, log)
                self.assertEqual(possible_dependencies(project, log, target), possible, log)

    def test_graphs_with_and_without_a_dependency(self):
        for project, log in mixed_logs():
            graphs = explaining_graphs(project, log)
            for target, name in pairs_of(project) if graphs else []:
                standing = standing_by_graphs(graphs, target, name)
                found = graph_with(project, log, target, name)
                self.assertEqual(found is None, standing == "impossible", (log, target, name))
                if found is not None:
                    self.assertIn(found, graphs)
                    self.assertIn(name, found[target])
                    self.assertEqual(list(found), project[1])
                found = graph_without(project, log, target, name)
                self.assertEqual(found is None, standing == "certain", (log, target, name))
                if found is not None:
                    self.assertIn(found, graphs)
                    self.assertNotIn(name, found[target])
                    self.assertEqual(list(found), project[1])

    def test_logs_that_no_graph_explains(self):
        for project, log in mixed_logs():
            if not explaining_graphs(project, log):
                expected = find_obstruction(project, log)
                for target, name in pairs_of(project):
                    for function in (standing_of, graph_with, graph_without):
                        with self.assertRaises(NotExplained) as caught:
                            function(project, log, target, name)
                        self.assertEqual(caught.exception.obstruction, expected)
                for target in project[1]:
                    for function in (certain_dependencies, possible_dependencies):
                        with self.assertRaises(NotExplained) as caught:
                            function(project, log, target)
                        self.assertEqual(caught.exception.obstruction, expected)


class LargeLogs(unittest.TestCase):
    def test_the_standings_of_point_31(self):
        for seed, count in [(3, 12), (4, 60)]:
            project, graph, log = big_world(seed, 10, 10, count)
            for target, name in pairs_of(project)[seed::7]:
                expected = standing_by_closures(project, log, target, name)
                self.assertEqual(standing_of(project, log, target, name), expected)
                if name in graph[target]:
                    self.assertNotEqual(expected, "impossible")
                else:
                    self.assertNotEqual(expected, "certain")

    def test_graphs_and_lists_of_a_log_of_200_builds(self):
        project, graph, log = big_world(6, 20, 20, 200)
        for target in project[1][::4]:
            certain = certain_dependencies(project, log, target)
            possible = possible_dependencies(project, log, target)
            self.assertLessEqual(set(certain), set(graph[target]))
            self.assertLessEqual(set(graph[target]), set(possible))
            for name in possible[:3] + certain[:3]:
                found = graph_with(project, log, target, name)
                self.assertIn(name, found[target])
                self.assertTrue(explains(project, found, log))
                found = graph_without(project, log, target, name)
                self.assertEqual(found is None, name in certain)
                if found is not None:
                    self.assertNotIn(name, found[target])
                    self.assertTrue(explains(project, found, log))


class Standings(unittest.TestCase):
    def test_the_empty_log(self):
        for target, name in pairs_of(P):
            self.assertEqual(standing_of(P, [], target, name), "open")
            self.assertIn(name, graph_with(P, [], target, name)[target])
            self.assertNotIn(name, graph_without(P, [], target, name)[target])
        self.assertEqual(certain_dependencies(P, [], "a"), [])
        self.assertEqual(possible_dependencies(P, [], "a"), ["b", "c", "s", "u"])

    def test_no_sources_and_one_target(self):
        self.assertEqual(standing_of(BARE, [], "a", "b"), "open")
        self.assertEqual(possible_dependencies(([], ["a"]), [], "a"), [])
        self.assertEqual(certain_dependencies(ONE, [(["s"], {"a": "new"})], "a"), ["s"])

    def test_the_log_of_point_12(self):
        found = {pair: standing_of(P, L, *pair) for pair in pairs_of(P)}
        self.assertEqual(found, {
            ("a", "b"): "impossible", ("a", "c"): "open", ("a", "s"): "open", ("a", "u"): "open",
            ("b", "a"): "certain", ("b", "c"): "open", ("b", "s"): "open", ("b", "u"): "open",
            ("c", "a"): "impossible", ("c", "b"): "impossible", ("c", "s"): "certain",
            ("c", "u"): "open",
        })

    def test_a_permitted_target_that_must_be_below_is_impossible(self):
        log = [(["s"], {"a": "failed", "b": "blocked"})]
        self.assertEqual(standing_of((["s"], ["a", "b"]), log, "a", "b"), "impossible")
        chain = [(["s"], {"a": "new", "b": "new", "c": "new"}),
                 (["s"], {"a": "same", "b": "idle", "c": "idle"}),
                 (["s"], {"a": "new", "b": "same", "c": "idle"})]
        self.assertEqual(standing_of(P, chain, "a", "c"), "impossible")
        self.assertEqual(standing_of(P, chain, "a", "b"), "impossible")
        self.assertEqual(standing_of(P, chain, "b", "a"), "certain")

    def test_two_open_names_that_are_impossible_together(self):
        self.assertEqual(standing_of(PAIR, [], "a", "b"), "open")
        self.assertEqual(standing_of(PAIR, [], "b", "a"), "open")
        graphs = explaining_graphs(PAIR, [])
        self.assertFalse([graph for graph in graphs if "b" in graph["a"] and "a" in graph["b"]])

    def test_two_open_names_that_are_needed_by_turns(self):
        log = [(["s", "u"], {"a": "new", "b": "idle", "c": "idle"})]
        self.assertEqual([standing_of(P, log, "a", name) for name in "su"], ["open", "open"])
        self.assertEqual(graph_without(P, log, "a", "s")["a"].count("u"), 1)
        self.assertEqual(graph_without(P, log, "a", "u")["a"].count("s"), 1)

    def test_wrong_arguments(self):
        for function in (standing_of, graph_with, graph_without):
            for name in ("b", "x", "", None, 0, ["s"], b"s"):
                with self.assertRaises(InvalidName):
                    function(P, L, "b", name)
            for target in ("s", "x", "", None, 0, ["a"]):
                with self.assertRaises(InvalidTarget):
                    function(P, L, target, target)
        for function in (certain_dependencies, possible_dependencies):
            for target in ("s", "x", "", None, 0, ["a"]):
                with self.assertRaises(InvalidTarget):
                    function(P, L, target)
        with self.assertRaises(InvalidTarget):
            certain_dependencies(DRY, [], "s")


if __name__ == "__main__":
    unittest.main()
