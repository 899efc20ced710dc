"""Points 45 to 48: the number of graphs that explain a log, and the number of each graph."""

import unittest
from itertools import product

from tests.support import P, all_graphs, subsets
from tests.worlds import (
    BARE,
    DRY,
    PAIR,
    TRIO,
    VOID,
    big_world,
    explaining_graphs,
    graphs_of,
    mixed_logs,
    needs_by_definition,
    pending_before,
    permitted_by_definition,
)
from whyreran.builds import explains, run_build
from whyreran.counting import (
    count_explanations,
    count_with,
    explanation_number,
    nth_explanation,
)
from whyreran.deciding import standing_of
from whyreran.errors import (
    InvalidGraph,
    InvalidLog,
    InvalidName,
    InvalidNumber,
    InvalidProject,
    InvalidTarget,
    TooLarge,
)
from whyreran.explaining import explanation, is_explained, lean_explanation

# The number of graphs without cycles over so many targets and no sources.
ACYCLIC = [1, 1, 3, 25, 543, 29281]

LETTERS = "abcdefghijklmnopqrstuvwxyz"
LARGEST = (list("vwxyz"), list("abcde"))


def pairs_of(project):
    names = sorted(project[0] + project[1])
    return [(target, name) for target in project[1] for name in names if name != target]


def numbered(project, graphs):
    """Return the graphs in the order of point 47."""
    return sorted(graphs, key=lambda graph: [
        name in graph[target] for target, name in pairs_of(project)
    ])


def count_by_formula(project, log):
    """Return the number of point 45, with sets and in its own words."""
    sources, targets = project
    permitted = {t: permitted_by_definition(project, log, t) for t in targets}
    needs = {t: [set(x) for _, x in needs_by_definition(project, log, t)] for t in targets}

    def ways(target, within):
        names = [x for x in permitted[target] if x in sources or x in within]
        return sum(all(need & set(some) for need in needs[target]) for some in subsets(names))

    numbers = {(): 1}
    for whole in subsets(targets)[1:]:
        total = 0
        for part in subsets(whole)[1:]:
            rest = [target for target in whole if target not in part]
            term = numbers[tuple(rest)]
            for target in part:
                term *= ways(target, rest)
            total += term if len(part) % 2 else -term
        numbers[tuple(whole)] = total
    return numbers[tuple(targets)]


class AllLogs(unittest.TestCase):
    def test_the_number_of_graphs(self):
        for project, log in mixed_logs():
            graphs = explaining_graphs(project, log)
            self.assertEqual(count_explanations(project, log), len(graphs), log)
            for target, name in pairs_of(project):
                expected = sum(name in graph[target] for graph in graphs)
                found = count_with(project, log, target, name)
                self.assertEqual(found, expected, (log, target, name))

    def test_the_graph_with_each_number(self):
        for project, log in mixed_logs()[::2]:
            graphs = numbered(project, explaining_graphs(project, log))
            for number in self.some_numbers(len(graphs)):
                found = nth_explanation(project, log, number)
                self.assertEqual(found, graphs[number], (log, number))
                self.assertEqual(list(found), project[1])
                found = explanation_number(project, log, graphs[number])
                self.assertEqual(found, number, log)
            for number in (-1, len(graphs), len(graphs) + 1):
                with self.assertRaises(InvalidNumber):
                    nth_explanation(project, log, number)

    def some_numbers(self, count):
        return sorted(set(range(min(count, 4))) | set(range(0, count, 9)) | set(range(count)[-2:]))

    def test_the_graphs_of_the_empty_log_in_their_order(self):
        for project in (PAIR, BARE, DRY, VOID, (["b", "z"], ["a", "c"]), TRIO):
            graphs = numbered(project, all_graphs(project))
            self.assertEqual(count_explanations(project, []), len(graphs))
            found = [nth_explanation(project, [], number) for number in range(len(graphs))]
            self.assertEqual(found, graphs)
            found = [explanation_number(project, [], graph) for graph in graphs]
            self.assertEqual(found, list(range(len(graphs))))

    def test_graphs_that_do_not_explain_the_log_have_no_number(self):
        for project, log in mixed_logs()[::5]:
            graphs = explaining_graphs(project, log)
            for graph in graphs_of(project)[::3]:
                if graph not in graphs:
                    with self.assertRaises(InvalidGraph):
                        explanation_number(project, log, graph)


class TheSums(unittest.TestCase):
    def test_the_standing_shows_in_the_numbers(self):
        for project, log in mixed_logs()[::3]:
            if is_explained(project, log):
                count = count_explanations(project, log)
                for target, name in pairs_of(project):
                    found = count_with(project, log, target, name)
                    standing = standing_of(project, log, target, name)
                    self.assertEqual(found == count, standing == "certain")
                    self.assertEqual(found == 0, standing == "impossible")

    def test_the_builds_that_can_come_next_share_the_graphs(self):
        for project, log in mixed_logs()[::7]:
            targets = project[1]
            results = {target: ["new", "failed", "same"][at % 3] for at, target in enumerate(targets)}
            total = 0
            for row in product(["ran", "blocked", "idle"], repeat=len(targets)):
                statuses = {
                    target: results[target] if word == "ran" else word
                    for target, word in zip(targets, row)
                }
                total += count_explanations(project, log + [(project[0], statuses)])
            self.assertEqual(total, count_explanations(project, log), log)


class LargestProjects(unittest.TestCase):
    def test_the_empty_log(self):
        for sources, targets in [(5, 5), (0, 5), (4, 5), (7, 3), (10, 0), (9, 1), (6, 4), (0, 0)]:
            project = (list(LETTERS[10:10 + sources]), list(LETTERS[:targets]))
            expected = ACYCLIC[targets] * 2 ** (sources * targets)
            self.assertEqual(count_explanations(project, []), expected)
            for target, name in pairs_of(project)[::3]:
                found = count_with(project, [], target, name)
                if name in project[0]:
                    self.assertEqual(2 * found, expected)
                else:
                    self.assertLess(2 * found, expected)

    def test_logs_of_five_targets_and_ten_names(self):
        for seed in range(5):
            project, graph, log = big_world(seed, 5, 5, 4 + seed)
            count = count_explanations(project, log)
            self.assertEqual(count, count_by_formula(project, log))
            for number in (0, 1, count // 3, count // 2, count - 2, count - 1):
                if 0 <= number < count:
                    found = nth_explanation(project, log, number)
                    self.assertTrue(explains(project, found, log))
                    self.assertEqual(explanation_number(project, log, found), number)
            for some in (graph, explanation(project, log), lean_explanation(project, log)):
                number = explanation_number(project, log, some)
                self.assertEqual(nth_explanation(project, log, number), some)

    def test_a_long_log(self):
        project, graph, log = big_world(21, 5, 5, 200)
        count = count_explanations(project, log)
        self.assertEqual(count, count_by_formula(project, log))
        number = explanation_number(project, log, graph)
        self.assertEqual(nth_explanation(project, log, number), graph)

    def test_billions_of_graphs(self):
        count = ACYCLIC[5] * 2 ** 25
        first = {target: [] for target in "abcde"}
        self.assertEqual(nth_explanation(LARGEST, [], 0), first)
        self.assertEqual(nth_explanation(LARGEST, [], 1), dict(first, e=["z"]))
        self.assertEqual(nth_explanation(LARGEST, [], 2), dict(first, e=["y"]))
        last = nth_explanation(LARGEST, [], count - 1)
        self.assertEqual(last, {
            "a": list("bcdevwxyz"), "b": list("cdevwxyz"), "c": list("devwxyz"),
            "d": list("evwxyz"), "e": list("vwxyz"),
        })
        self.assertEqual(explanation_number(LARGEST, [], last), count - 1)
        with self.assertRaises(InvalidNumber):
            nth_explanation(LARGEST, [], count)


class Numbers(unittest.TestCase):
    def test_no_graph(self):
        log = [([], {"a": "new", "b": "idle", "c": "idle"})]
        self.assertEqual(count_explanations(P, log), 0)
        self.assertEqual(count_with(P, log, "a", "s"), 0)
        for number in (0, 1, -1):
            with self.assertRaises(InvalidNumber):
                nth_explanation(P, log, number)

    def test_an_idle_pending_target(self):
        log = [(["s"], {"a": "failed", "b": "idle", "c": "idle"}),
               ([], {"a": "idle", "b": "idle", "c": "idle"})]
        self.assertEqual(count_by_formula(P, log) > 0, True)
        self.assertEqual(count_explanations(P, log), 0)
        self.assertEqual(count_with(P, log, "b", "u"), 0)
        with self.assertRaises(InvalidNumber):
            nth_explanation(P, log, 0)
        for graph in all_graphs(P)[::40]:
            with self.assertRaises(InvalidGraph):
                explanation_number(P, log, graph)

    def test_no_targets(self):
        self.assertEqual(count_explanations(DRY, [(["s"], {})]), 1)
        self.assertEqual(nth_explanation(DRY, [], 0), {})
        self.assertEqual(explanation_number(VOID, [], {}), 0)
        with self.assertRaises(InvalidNumber):
            nth_explanation(VOID, [], 1)

    def test_wrong_numbers(self):
        for number in (-1, 12, 10 ** 29, True, False, 1.0, "1", None, [1], (1,)):
            with self.assertRaises(InvalidNumber):
                nth_explanation(PAIR, [], number)

    def test_one_more_build_narrows_the_numbers(self):
        log = []
        graph = {"a": ["s"], "b": ["a"], "c": ["b"]}
        counts = []
        for changed in (["s"], ["u"], ["s"]):
            counts.append(count_explanations(P, log))
            results = {"a": "new", "b": "same" if changed == ["u"] else "new", "c": "same"}
            statuses = run_build(P, graph, pending_before(log, len(log)), changed, results)
            log.append((changed, statuses))
            self.assertGreaterEqual(explanation_number(P, log, graph), 0)
        self.assertEqual(counts[0], 25 * 64)
        self.assertEqual(counts, sorted(counts, reverse=True))


class Errors(unittest.TestCase):
    def check_limit(self, project, limit):
        graph = {target: [] for target in project[1]}
        calls = [(count_explanations,), (count_with, project[1][0], project[1][1]),
                 (nth_explanation, None), (nth_explanation, 0), (explanation_number, graph)]
        for function, *rest in calls:
            with self.assertRaises(TooLarge) as caught:
                function(project, [], *rest)
            self.assertEqual(caught.exception.limit, limit)

    def test_the_limits(self):
        self.check_limit((["s"], list("abcdef")), 5)
        self.check_limit((list("uvwxyz"), list("abcdef")), 5)
        self.check_limit((list("mnopqr"), list("abcde")), 10)
        self.check_limit((list("mnopqrstu"), list("ab")), 10)
        self.check_limit(([], list(LETTERS[:20])), 5)

    def test_a_project_of_sources_alone(self):
        project = (list(LETTERS[:11]), [])
        for function, *rest in [(count_explanations,), (nth_explanation, 0), (explanation_number, {})]:
            with self.assertRaises(TooLarge) as caught:
                function(project, [], *rest)
            self.assertEqual(caught.exception.limit, 10)

    def test_the_order_of_the_errors(self):
        large = (["s"], list("abcdef"))
        graph = {target: [] for target in "abcdef"}
        log = [(["s"], dict({target: "idle" for target in "abcdef"}, a="new"))]
        rows = [
            (count_explanations, (None, None), InvalidProject),
            (count_explanations, (large, None), InvalidLog),
            (count_with, (large, log, "s", "s"), InvalidTarget),
            (count_with, (large, log, "a", "a"), InvalidName),
            (count_with, (large, log, "a", "x"), InvalidName),
            (count_with, (large, log, "a", "s"), TooLarge),
            (nth_explanation, (large, None, None), InvalidLog),
            (nth_explanation, (large, log, None), TooLarge),
            (nth_explanation, (P, [], None), InvalidNumber),
            (explanation_number, (large, None, None), InvalidLog),
            (explanation_number, (large, log, None), InvalidGraph),
            (explanation_number, (large, log, graph), InvalidGraph),
            (explanation_number, (large, log, dict(graph, a=["s"])), TooLarge),
            (explanation_number, (P, [], {"a": ["a"], "b": [], "c": []}), InvalidGraph),
        ]
        for function, args, error in rows:
            with self.assertRaises(error):
                function(*args)


if __name__ == "__main__":
    unittest.main()
