"""Points 39 to 44: what the next build must or may run, and which builds can come next."""

import unittest

from tests.support import STATUSES, P, all_builds, subsets, word_by_the_rule, word_of_status
from tests.worlds import (
    BARE,
    DRY,
    ONE,
    PAIR,
    TRIO,
    TWINS,
    VOID,
    above_by_paths,
    big_world,
    closure_by_definition,
    explaining_graphs,
    graphs_of,
    mixed_logs,
    pending_before,
)
from whyreran.builds import explains, run_build
from whyreran.errors import (
    InvalidBuild,
    InvalidNames,
    InvalidTarget,
    NotExplained,
)
from whyreran.explaining import find_obstruction
from whyreran.next_builds import (
    certain_blocked,
    fits_next,
    fitting_statuses,
    least_rerun_graph,
    least_reruns,
    may_run,
    must_run,
)

L = [
    (["s"], {"a": "failed", "b": "blocked", "c": "new"}),
    ([], {"a": "same", "b": "new", "c": "idle"}),
]
IDLE = {"a": "idle", "b": "idle", "c": "idle"}


def explained_logs():
    found = [(project, log, explaining_graphs(project, log)) for project, log in mixed_logs()]
    return [row for row in found if row[2]]


def rerun_targets(project, graph, log, changed):
    """Return the targets that run if these sources are changed and every run ends new."""
    new = {target: "new" for target in project[1]}
    statuses = run_build(project, graph, pending_before(log, len(log)), changed, new)
    return [target for target in project[1] if statuses[target] == "new"]


def blocked_targets(project, graph, target):
    """Return the targets that are blocked in the build of point 42."""
    results = {other: "failed" if other == target else "new" for other in project[1]}
    statuses = run_build(project, graph, [], project[0], results)
    return {other for other in project[1] if statuses[other] == "blocked"}


def fits(project, graph, log, build):
    pending = pending_before(log, len(log))
    return all(
        word_by_the_rule(graph, pending, build, target) == word_of_status(build[1][target])
        for target in project[1]
    )


class AllLogs(unittest.TestCase):
    def test_what_must_and_may_run(self):
        for project, log, graphs in explained_logs():
            pending = pending_before(log, len(log))
            for target in project[1]:
                others = [name for name in project[0] + project[1] if name != target]
                for changed in subsets(others):
                    runs = [target in pending or bool(set(graph[target]) & set(changed))
                            for graph in graphs]
                    must = must_run(project, log, target, changed[::-1])
                    self.assertIs(must, all(runs), (log, target, changed))
                    may = may_run(project, log, target, changed[::-1])
                    self.assertIs(may, any(runs), (log, target, changed))

    def test_least_reruns(self):
        for project, log, graphs in explained_logs():
            for changed in subsets(project[0]):
                rows = [set(rerun_targets(project, graph, log, changed)) for graph in graphs]
                expected = sorted(set.intersection(*rows))
                self.assertEqual(least_reruns(project, log, changed[::-1]), expected, log)
                graph = least_rerun_graph(project, log, changed[::-1])
                self.assertIn(graph, graphs)
                self.assertEqual(list(graph), project[1])
                self.assertEqual(rerun_targets(project, graph, log, changed), expected, log)

    def test_certain_blocked(self):
        seen = set()
        for project, log, graphs in explained_logs():
            for target in project[1]:
                rows = [blocked_targets(project, graph, target) for graph in graphs]
                expected = sorted(set.intersection(*rows))
                seen.add(tuple(expected))
                self.assertEqual(certain_blocked(project, log, target), expected, (log, target))
        self.assertGreater(len(seen), 3)

    def test_which_builds_fit(self):
        for project, log, graphs in explained_logs():
            for build in all_builds(project)[len(log) % 3::3]:
                expected = any(fits(project, graph, log, build) for graph in graphs)
                self.assertIs(fits_next(project, log, build), expected, (log, build))

    def test_which_statuses_fit(self):
        for project, log, graphs in explained_logs()[::3]:
            for number, build in enumerate(all_builds(project)[len(log) % 7::7]):
                changed, statuses = build
                for target in project[1][number % 2::2]:
                    expected = [
                        status for status in STATUSES
                        if any(fits(project, graph, log, (changed, {**statuses, target: status}))
                               for graph in graphs)
                    ]
                    found = fitting_statuses(project, log, build, target)
                    self.assertEqual(found, expected, (log, build, target))

    def test_logs_that_no_graph_explains(self):
        for project, log in mixed_logs()[::3]:
            if not explaining_graphs(project, log):
                target = project[1][0]
                build = (project[0], {name: "idle" for name in project[1]})
                calls = [
                    (must_run, target, []), (may_run, target, project[0]),
                    (least_reruns, project[0]), (least_rerun_graph, []), (certain_blocked, target),
                    (fits_next, build), (fitting_statuses, build, target),
                ]
                for function, *rest in calls:
                    with self.assertRaises(NotExplained) as caught:
                        function(project, log, *rest)
                    self.assertEqual(
                        caught.exception.obstruction, find_obstruction(project, log)
                    )


class LargeLogs(unittest.TestCase):
    def setUp(self):
        self.project, self.graph, self.log = big_world(11, 20, 20, 200)

    def test_the_log_may_have_200_builds(self):
        project, graph, log = self.project, self.graph, self.log
        new = {target: "new" for target in project[1]}
        statuses = run_build(project, graph, pending_before(log, 200), ["s03", "s11"], new)
        self.assertIs(fits_next(project, log, (["s03", "s11"], statuses)), True)
        target = [target for target in project[1] if statuses[target] == "new"][0]
        found = fitting_statuses(project, log, (["s03", "s11"], statuses), target)
        self.assertIn("new", found)
        self.assertIs(fits_next(project, log, (project[0], {t: "blocked" for t in new})), False)

    def test_least_reruns_and_what_is_blocked(self):
        project, graph, log = self.project, self.graph, self.log
        for changed in ([], ["s00"], ["s05", "s04"], project[0][::-1]):
            causes = changed + pending_before(log, 200)
            free = closure_by_definition(project, log, causes)
            expected = [target for target in project[1] if target not in free]
            self.assertEqual(least_reruns(project, log, changed), expected)
            found = least_rerun_graph(project, log, changed)
            self.assertTrue(explains(project, found, log))
            self.assertEqual(rerun_targets(project, found, log, changed), expected)
            self.assertLessEqual(set(expected), set(rerun_targets(project, graph, log, changed)))
        for target in project[1][::6]:
            found = certain_blocked(project, log, target)
            self.assertLessEqual(set(found), blocked_targets(project, graph, target))
            for other in found:
                self.assertIn(target, above_by_paths(graph, other))


class MustAndMay(unittest.TestCase):
    def test_a_pending_target_runs_whatever_is_changed(self):
        for target in ("a", "b"):
            self.assertIs(must_run(P, L[:1], target, []), True)
            self.assertIs(may_run(P, L[:1], target, []), True)
        self.assertIs(must_run(P, L[:1], "c", []), False)
        self.assertIs(may_run(P, L[:1], "c", []), False)

    def test_nothing_is_pending_before_the_first_build(self):
        for target in "abc":
            self.assertIs(must_run(P, [], target, []), False)
            self.assertIs(may_run(P, [], target, []), False)
            self.assertIs(must_run(P, [], target, ["s", "u"]), False)
            self.assertIs(may_run(P, [], target, ["u"]), True)

    def test_targets_among_the_changed_names(self):
        self.assertIs(must_run(P, L, "b", ["a"]), True)
        self.assertIs(may_run(P, L, "a", ["b"]), False)
        self.assertIs(must_run(P, L, "b", ["c", "u", "s"]), False)

    def test_wrong_arguments(self):
        for function in (must_run, may_run):
            for target in ("s", "x", "", None, 0, ["a"]):
                with self.assertRaises(InvalidTarget):
                    function(P, L, target, ["a"])
            for changed in (["a"], ["s", "a"], ["s", "s"], ["x"], ("s",), "s", None, [None], 0):
                with self.assertRaises(InvalidNames):
                    function(P, L, "a", changed)


class LeastReruns(unittest.TestCase):
    def test_pending_targets_are_among_them(self):
        self.assertEqual(least_reruns(P, L[:1], []), ["a", "b"])
        self.assertEqual(least_reruns(P, L[:1], ["u"]), ["a", "b"])

    def test_small_projects(self):
        self.assertEqual(least_reruns(P, [], ["u", "s"]), [])
        self.assertEqual(least_rerun_graph(DRY, [], ["u", "s"]), {})
        self.assertEqual(least_reruns(VOID, [([], {})], []), [])
        self.assertEqual(least_reruns(ONE, [(["s"], {"a": "new"})], ["s"]), ["a"])

    def test_wrong_lists_of_sources(self):
        for function in (least_reruns, least_rerun_graph):
            for changed in (["a"], ["s", "s"], ["x"], ("s",), "s", None, [None], {"s": 1}):
                with self.assertRaises(InvalidNames):
                    function(P, L, changed)


class CertainBlocked(unittest.TestCase):
    def test_a_target_that_is_dead_in_some_graph_blocks_nothing(self):
        for target in "abc":
            self.assertEqual(certain_blocked(P, [], target), [])
        log = [(["s"], {"a": "idle", "b": "failed"}), ([], {"a": "idle", "b": "same"})]
        self.assertEqual([certain_blocked(PAIR, log, target) for target in "ab"], [[], []])

    def test_all_graphs_agree(self):
        log = [(["s"], {"a": "failed", "b": "blocked", "c": "blocked"})]
        self.assertEqual(certain_blocked(TRIO, log, "a"), ["b", "c"])
        self.assertEqual(certain_blocked(TRIO, log, "c"), [])

    def test_wrong_targets(self):
        for target in ("s", "x", "", None, 0, ["a"]):
            with self.assertRaises(InvalidTarget):
                certain_blocked(P, L, target)


class Fitting(unittest.TestCase):
    def test_the_first_build(self):
        for project in (PAIR, TWINS, BARE):
            for build in all_builds(project):
                expected = any(fits(project, graph, [], build) for graph in graphs_of(project))
                self.assertIs(fits_next(project, [], build), expected)

    def test_the_order_of_the_statuses(self):
        self.assertEqual(fitting_statuses(P, [], (["s"], IDLE), "a"), [
            "new", "same", "failed", "idle",
        ])
        blocked = (["s"], {"a": "failed", "b": "idle", "c": "idle"})
        self.assertEqual(fitting_statuses(P, [], blocked, "b"), [
            "new", "same", "failed", "blocked", "idle",
        ])

    def test_no_status_fits(self):
        build = ([], {"a": "new", "b": "same", "c": "idle"})
        self.assertEqual(fitting_statuses(P, L, build, "c"), [])

    def test_the_status_in_the_build_does_not_matter(self):
        for status in STATUSES:
            found = fitting_statuses(P, L, (["u"], dict(IDLE, c=status)), "c")
            self.assertEqual(found, ["new", "same", "failed", "idle"])

    def test_an_empty_project(self):
        self.assertIs(fits_next(VOID, [], ([], {})), True)
        self.assertIs(fits_next(DRY, [], (["s"], {})), True)

    def test_the_order_of_the_errors(self):
        unexplained = [([], dict(IDLE, a="new"))]
        right = ([], IDLE)
        wrong = [None, ([], {}), ([], dict(IDLE, a="New")), (["a"], IDLE), [[], IDLE], ([], IDLE, 0)]
        for log in (L, unexplained):
            for build in wrong:
                with self.assertRaises(InvalidBuild):
                    fits_next(P, log, build)
                with self.assertRaises(InvalidBuild):
                    fitting_statuses(P, log, build, "s")
            for target in ("s", "x", None, ["a"]):
                with self.assertRaises(InvalidTarget):
                    fitting_statuses(P, log, right, target)


if __name__ == "__main__":
    unittest.main()
