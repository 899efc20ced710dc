"""Points 49 to 54: live targets, forms, graphs with the same logs and builds that tell others apart."""

import random
import unittest
from itertools import product

from tests.support import G, P, all_builds, all_results, odd_values, subsets
from tests.worlds import (
    BARE,
    DRY,
    ONE,
    PAIR,
    PROJECTS,
    TRIO,
    TWINS,
    VOID,
    above_by_paths,
    big_world,
    builds_of_graph,
    chain_world,
    dense_world,
    graphs_of,
    live_by_paths,
    random_plans,
)
from whyreran.builds import explains, first_mismatch, run_build, run_builds
from whyreran.equivalence import (
    count_same,
    greatest_form,
    have_same_logs,
    is_superfluous,
    least_form,
    live_targets,
    separating_build,
    uncovered_path,
)
from whyreran.errors import InvalidGraph, InvalidName, InvalidProject, InvalidTarget
from whyreran.projects import is_build, is_graph

FOUR = (["s", "u"], ["a", "b", "c", "d"])
R = (["s"], ["t", "x", "y"])
RG = {"t": ["s", "y"], "x": ["s"], "y": ["x"]}
WORLDS = [chain_world(20, 20), dense_world(20, 20), chain_world(1, 20), dense_world(39, 1),
          dense_world(0, 20), big_world(1, 20, 20, 1)[:2], big_world(2, 24, 16, 1)[:2]]


def without(graph, target, name):
    return dict(graph, **{target: [other for other in graph[target] if other != name]})


def with_name(graph, target, name):
    return dict(graph, **{target: sorted(set(graph[target]) | {name})})


def is_plain(project, graph):
    """Tell whether dead targets have no dependencies, and live targets live ones only."""
    live = live_by_paths(project, graph)
    return all(set(graph[t]) <= live if t in live else not graph[t] for t in project[1])


def paths_to(project, graph, name):
    """Return all paths from a source to a name."""
    if name in project[0]:
        return [[name]]
    return [path + [name] for x in graph[name] for path in paths_to(project, graph, x)]


def greatest_by_paths(project, graph):
    """Return the greatest form in the words of point 50."""
    live = live_by_paths(project, graph)
    form = {}
    for t in project[1]:
        form[t] = [x for x in graph[t] if x in live and t in live]
        for x in project[1] if t in live else []:
            if x in live and x in above_by_paths(graph, t) and x not in graph[t]:
                if all(set(path) & set(graph[t]) for path in paths_to(project, graph, x)):
                    form[t].append(x)
        form[t].sort()
    return form


def least_by_paths(project, graph):
    """Return the least form in the words of point 50."""
    greatest = greatest_by_paths(project, graph)
    form = {}
    for t in project[1]:
        form[t] = []
        for x in greatest[t]:
            others = set(greatest[t]) - {x}
            free = any(not set(path) & others for path in paths_to(project, graph, x))
            if free or not any(x in above_by_paths(graph, other) for other in others):
                form[t].append(x)
    return form


def random_graph(rng, project, density):
    order = list(project[1])
    rng.shuffle(order)
    graph = {}
    for target in project[1]:
        before = project[0] + order[:order.index(target)]
        graph[target] = sorted(x for x in before if rng.random() < density)
    return graph


def neighbours(project, graph):
    """Return the graphs that differ from a graph by one dependency."""
    found = []
    for t in project[1]:
        for x in project[0] + project[1]:
            if x in graph[t]:
                found.append(without(graph, t, x))
            elif x != t and is_graph(project, with_name(graph, t, x)):
                found.append(with_name(graph, t, x))
    return found


def builds_that_happen(project, graph):
    """Return the logs of one build of a graph, one for all results of its runs."""
    rows = product(subsets(project[0]), all_results(project))
    return {repr((changed, run_build(project, graph, [], changed, results)))
            for changed, results in rows}


class AllGraphs(unittest.TestCase):
    def test_live_targets(self):
        for project in PROJECTS:
            for graph in graphs_of(project):
                live = live_by_paths(project, graph)
                expected = [target for target in project[1] if target in live]
                self.assertEqual(live_targets(project, graph), expected, graph)

    def test_forms_are_the_bounds_of_all_graphs_with_the_same_logs(self):
        for project in PROJECTS:
            for graph in graphs_of(project):
                same = [other for other in graphs_of(project) if is_plain(project, other)
                        and builds_of_graph(project, other) == builds_of_graph(project, graph)]
                greatest = {t: sorted(set().union(*[x[t] for x in same])) for t in project[1]}
                least = {t: sorted(set(graph[t]).intersection(*[x[t] for x in same]))
                         for t in project[1]}
                self.assertEqual(greatest_form(project, graph), greatest, graph)
                self.assertEqual(least_form(project, graph), least, graph)
                self.assertEqual(count_same(project, graph), len(same), graph)
                self.assertIn(greatest, same)
                self.assertIn(least, same)

    def test_which_graphs_have_the_same_logs(self):
        seen = set()
        for project in PROJECTS:
            graphs = graphs_of(project)
            for graph in graphs:
                builds = builds_of_graph(project, graph)
                for other in graphs[::3] if len(graphs) > 60 else graphs:
                    expected = builds == builds_of_graph(project, other)
                    seen.add(expected)
                    self.assertIs(have_same_logs(project, graph, other), expected, (graph, other))
        self.assertEqual(seen, {True, False})

    def test_builds_that_separate_graphs(self):
        for project in PROJECTS:
            builds = all_builds(project)
            graphs = graphs_of(project)
            for graph in graphs:
                for other in graphs[::3] if len(graphs) > 60 else graphs:
                    found = separating_build(project, graph, other)
                    sets = [builds_of_graph(project, x) for x in (graph, other)]
                    if sets[0] == sets[1]:
                        self.assertIsNone(found, (graph, other))
                        continue
                    build, holder = found
                    at = builds.index(build)
                    self.assertIn(holder, (1, 2))
                    self.assertEqual([at in x for x in sets], [holder == 1, holder == 2], (graph, other))

    def test_superfluous_dependencies(self):
        seen = set()
        for project in PROJECTS:
            for graph in graphs_of(project):
                builds = builds_of_graph(project, graph)
                for t in project[1]:
                    for x in graph[t]:
                        expected = builds == builds_of_graph(project, without(graph, t, x))
                        seen.add(expected)
                        self.assertIs(is_superfluous(project, graph, t, x), expected, (graph, t, x))
        self.assertEqual(seen, {True, False})

    def test_uncovered_paths(self):
        for project in PROJECTS:
            for graph in graphs_of(project):
                for t in project[1]:
                    for x in sorted(project[0] + project[1]):
                        if x != t:
                            self.check_path(project, graph, t, x)

    def check_path(self, project, graph, t, x):
        right = [path for path in paths_to(project, graph, x)
                 if not set(path[:-1]) & set(graph[t])]
        found = uncovered_path(project, graph, t, x)
        if found is None:
            self.assertEqual(right, [], (graph, t, x))
        else:
            self.assertIn(found, right, (graph, t, x))

    def test_longer_logs_say_nothing_more(self):
        rng = random.Random(5)
        for graph in graphs_of(TRIO)[::3]:
            log = run_builds(TRIO, graph, random_plans(rng, TRIO, 6))
            for form in (greatest_form(TRIO, graph), least_form(TRIO, graph)):
                self.assertTrue(explains(TRIO, form, log))
            for other in graphs_of(TRIO)[::7]:
                if have_same_logs(TRIO, graph, other):
                    self.assertTrue(explains(TRIO, other, log))
                elif not explains(TRIO, other, log):
                    self.assertIsNotNone(separating_build(TRIO, graph, other))


class LargerGraphs(unittest.TestCase):
    def test_forms_in_the_words_of_the_document(self):
        rng = random.Random(11)
        for number in range(300):
            project = (["s", "u"][:1 + number % 2], ["a", "b", "c", "d", "e", "f"][:4 + number % 3])
            graph = random_graph(rng, project, (number % 5 + 2) / 8)
            greatest = greatest_by_paths(project, graph)
            least = least_by_paths(project, graph)
            self.assertEqual(greatest_form(project, graph), greatest, graph)
            self.assertEqual(least_form(project, graph), least, graph)
            more = sum(len(greatest[t]) - len(least[t]) for t in project[1])
            self.assertEqual(count_same(project, graph), 2 ** more)
            for form in (greatest, least):
                self.assertTrue(have_same_logs(project, graph, form))
                self.assertEqual(greatest_form(project, form), greatest)
                self.assertEqual(least_form(project, form), least)

    def test_neighbours_of_graphs_of_four_targets(self):
        rng = random.Random(12)
        seen = set()
        for number in range(40):
            graph = random_graph(rng, FOUR, (number % 4 + 2) / 8)
            happen = builds_that_happen(FOUR, graph)
            for other in neighbours(FOUR, graph)[number % 3::3]:
                same = builds_that_happen(FOUR, other) == happen
                seen.add(same)
                self.assertIs(have_same_logs(FOUR, graph, other), same, (graph, other))
                self.check_separation(FOUR, graph, other, same)
        self.assertEqual(seen, {True, False})

    def check_separation(self, project, graph, other, same):
        found = separating_build(project, graph, other)
        self.assertEqual(found is None, same, (graph, other))
        if found is not None:
            build, holder = found
            self.assertTrue(is_build(project, build))
            self.assertEqual(list(build[1]), project[1])
            self.assertEqual([explains(project, x, [build]) for x in (graph, other)],
                             [holder == 1, holder == 2], (graph, other))

    def test_graphs_of_twenty_targets(self):
        rng = random.Random(13)
        for project, graph in WORLDS:
            greatest = greatest_form(project, graph)
            least = least_form(project, graph)
            same = count_same(project, graph)
            free = sum(len(greatest[t]) - len(least[t]) for t in project[1])
            self.assertEqual(same, 2 ** free)
            log = run_builds(project, graph, random_plans(rng, project, 200))
            for form in (greatest, least):
                self.assertTrue(have_same_logs(project, form, graph))
                self.assertIsNone(separating_build(project, graph, form))
                self.assertIsNone(first_mismatch(project, form, log))
            live = live_by_paths(project, graph)
            self.assertEqual(live_targets(project, graph), [t for t in project[1] if t in live])
            for t in project[1][::3]:
                for x in graph[t][::4]:
                    fewer = without(graph, t, x)
                    spare = is_superfluous(project, graph, t, x)
                    self.assertIs(have_same_logs(project, graph, fewer), spare, (t, x))
                    self.check_separation(project, graph, fewer, spare)
                    self.check_separation(project, fewer, graph, spare)

    def test_the_forms_of_a_chain_and_of_a_full_graph(self):
        project, graph = chain_world(20, 20)
        self.assertEqual([greatest_form(project, graph), least_form(project, graph)], [graph, graph])
        self.assertEqual(count_same(project, graph), 1)
        project, graph = dense_world(2, 20)
        self.assertEqual(greatest_form(project, graph), graph)
        for at, t in enumerate(project[1]):
            self.assertEqual(least_form(project, graph)[t], project[0] + project[1][:at][-1:])

    def test_a_chain_of_which_all_depend_on_the_first(self):
        project, graph = chain_world(20, 20)
        targets = project[1]
        for at in range(2, 20):
            graph[targets[at]] = [targets[0], targets[at - 1]]
        least = {t: list(graph[t]) for t in targets}
        least[targets[2]] = targets[:2]
        greatest = {t: targets[:at] if at else project[0] for at, t in enumerate(targets)}
        self.assertEqual([greatest_form(project, graph), least_form(project, graph)], [greatest, least])
        self.assertEqual(count_same(project, graph), 2 ** 153)
        self.assertIs(have_same_logs(project, graph, greatest), True)


class Edges(unittest.TestCase):
    def test_no_sources_and_no_targets(self):
        for project, graph in [(BARE, {"a": [], "b": ["a"]}), (DRY, {}), (VOID, {})]:
            empty = {target: [] for target in project[1]}
            self.assertEqual(live_targets(project, graph), [])
            self.assertEqual(greatest_form(project, graph), empty)
            self.assertEqual(least_form(project, graph), empty)
            self.assertEqual(count_same(project, graph), 1)
            self.assertIs(have_same_logs(project, graph, empty), True)
            self.assertIsNone(separating_build(project, graph, empty))
        self.assertIs(is_superfluous(BARE, {"a": [], "b": ["a"]}, "b", "a"), True)
        self.assertIsNone(uncovered_path(BARE, {"a": [], "b": ["a"]}, "b", "a"))

    def test_dead_targets_with_dependencies(self):
        graph = {"a": [], "b": ["a"], "c": ["a", "b", "s"]}
        self.assertEqual(live_targets(P, graph), ["c"])
        plain = {"a": [], "b": [], "c": ["s"]}
        self.assertEqual([greatest_form(P, graph), least_form(P, graph)], [plain, plain])
        self.assertEqual(count_same(P, graph), 1)
        self.assertIs(have_same_logs(P, graph, plain), True)
        found = [is_superfluous(P, graph, t, x) for t, x in [("b", "a"), ("c", "a"), ("c", "b"), ("c", "s")]]
        self.assertEqual(found, [True, True, True, False])
        self.assertEqual(uncovered_path(P, graph, "b", "c"), ["s", "c"])
        self.assertIsNone(uncovered_path(P, graph, "c", "b"))
        self.assertIsNone(uncovered_path(P, graph, "b", "a"))

    def test_a_target_that_is_live_in_one_graph_only(self):
        build, holder = separating_build(ONE, {"a": []}, {"a": ["s"]})
        self.assertEqual(explains(ONE, {"a": []}, [build]), holder == 1)
        self.assertEqual(explains(ONE, {"a": ["s"]}, [build]), holder == 2)
        self.assertIs(have_same_logs(ONE, {"a": []}, {"a": ["s"]}), False)

    def test_a_source_alone_is_a_path(self):
        for t in ("a", "b", "c"):
            for x in ("s", "u"):
                self.assertEqual(uncovered_path(P, G, t, x), [x])
        self.assertEqual(uncovered_path(P, {"a": ["u"], "b": [], "c": []}, "b", "a"), ["u", "a"])

    def test_a_path_may_end_with_a_dependency_or_below_the_target(self):
        graph = {"a": ["s"], "b": ["a"], "c": ["b"]}
        self.assertEqual(uncovered_path(P, graph, "b", "a"), ["s", "a"])
        self.assertEqual(uncovered_path(P, graph, "c", "b"), ["s", "a", "b"])
        self.assertIsNone(uncovered_path(P, graph, "a", "c"))
        self.assertIsNone(uncovered_path(P, graph, "b", "c"))
        self.assertEqual(uncovered_path(P, dict(graph, b=["a", "u"]), "a", "c"), ["u", "b", "c"])
        around = {"a": ["s", "u"], "b": ["s"], "c": ["a", "b"]}
        self.assertEqual(uncovered_path(P, around, "b", "c"), ["u", "a", "c"])

    def test_which_of_two_dependencies_is_superfluous(self):
        graph = {"t": ["s", "x", "y"], "x": ["s"], "y": ["x"]}
        found = [is_superfluous(R, graph, "t", name) for name in ["s", "x", "y"]]
        self.assertEqual(found, [False, True, False])
        # A name that is covered, but has no dependency of the target below it, has to stay.
        twin = {"t": ["x", "y"], "x": ["s"], "y": ["s"]}
        self.assertEqual([is_superfluous(R, twin, "t", name) for name in "xy"], [False, False])
        # A name above a dependency, but not covered, has to stay as well.
        self.assertIs(is_superfluous(R, {"t": ["x", "y"], "x": ["s"], "y": ["x"]}, "t", "x"), False)

    def test_two_sources_and_twins(self):
        graph = {"a": ["b", "s"], "c": ["a", "b"]}
        self.assertEqual(greatest_form(TWINS, graph), graph)
        self.assertEqual(least_form(TWINS, graph), graph)
        self.assertEqual(greatest_form(PAIR, {"a": ["s"], "b": ["a"]}), {"a": ["s"], "b": ["a"]})

    def test_keys_and_lists_are_in_ascending_order(self):
        graph = {"c": ["u"], "b": ["a"], "a": ["c", "s"]}
        for form in (greatest_form(P, graph), least_form(P, graph)):
            self.assertEqual(list(form), ["a", "b", "c"])
        self.assertEqual(greatest_form(P, graph)["b"], ["a"])
        full = {"a": ["b", "c", "s"], "b": ["s"], "c": ["b", "s"]}
        self.assertEqual(greatest_form(P, full)["a"], ["b", "c", "s"])
        self.assertEqual(least_form(P, full)["a"], ["c", "s"])


class WrongArguments(unittest.TestCase):
    def test_targets_and_names(self):
        for function in (is_superfluous, uncovered_path):
            for target in odd_values() + ["s", "d"]:
                if not isinstance(target, str) or target != "a":
                    with self.assertRaises(InvalidTarget):
                        function(P, G, target, "s")

    def test_a_name_that_is_not_a_dependency(self):
        for name in odd_values() + ["a", "s", "c", "b"]:
            if not isinstance(name, str) or name not in G["b"]:
                with self.assertRaises(InvalidName):
                    is_superfluous(P, G, "b", name)
        self.assertIs(is_superfluous(P, G, "b", "a"), False)

    def test_the_target_itself_has_no_uncovered_path(self):
        for name in odd_values() + ["b", "d"]:
            if not isinstance(name, str) or name not in ("a", "c", "s", "u"):
                with self.assertRaises(InvalidName):
                    uncovered_path(P, G, "b", name)
        self.assertEqual(uncovered_path(P, G, "b", "c"), None)

    def test_several_wrong_arguments(self):
        cycle = {"a": ["b"], "b": ["a"], "c": []}
        for function in (have_same_logs, separating_build):
            with self.assertRaises(InvalidProject):
                function((["s"], ["s"]), None, None)
            for graph, other in [(cycle, G), (G, cycle), (None, None), (G, {"a": []})]:
                with self.assertRaises(InvalidGraph):
                    function(P, graph, other)
        for function in (is_superfluous, uncovered_path):
            with self.assertRaises(InvalidGraph):
                function(P, cycle, None, None)
            with self.assertRaises(InvalidTarget):
                function(P, G, None, None)


if __name__ == "__main__":
    unittest.main()
