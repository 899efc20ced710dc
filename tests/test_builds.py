"""Points 9 and 17 to 21: the rule, builds, pending targets, mismatches and causes."""

import unittest
from itertools import product

from tests.support import (
    RESULTS,
    G,
    L,
    P,
    all_builds,
    all_graphs,
    all_results,
    subsets,
    word_by_the_rule,
    word_of_status,
)
from whyreran.builds import (
    cause_of,
    explains,
    first_mismatch,
    pending_in,
    run_build,
    run_builds,
)
from whyreran.errors import (
    InvalidGraph,
    InvalidLog,
    InvalidNames,
    InvalidNumber,
    InvalidProject,
    InvalidResults,
    InvalidTarget,
)

PAIR = (["s"], ["a", "b"])
TRIO = (["s"], ["a", "b", "c"])
ALL_NEW = {"a": "new", "b": "new", "c": "new"}


def mismatches(project, graph, log):
    """Return all mismatches of a log, in the order in which the document compares them."""
    found = []
    pending = []
    for index, build in enumerate(log):
        for target in project[1]:
            word = word_by_the_rule(graph, pending, build, target)
            if word != word_of_status(build[1][target]):
                found.append((index, target, word))
        pending = [t for t in build[1] if build[1][t] in ("failed", "blocked")]
    return found


class RunBuild(unittest.TestCase):
    def check(self, project, graph, pending, changed, results):
        statuses = run_build(project, graph, pending, changed, results)
        self.assertEqual(list(statuses), project[1])
        for target in project[1]:
            word = word_by_the_rule(graph, pending, (changed, statuses), target)
            expected = results[target] if word == "runs" else word
            self.assertEqual(statuses[target], expected, (graph, pending, changed, results))

    def test_the_rule_holds_at_every_target_of_all_graphs_with_two_targets(self):
        for graph in all_graphs(PAIR):
            for pending, changed in product(subsets(PAIR[1]), subsets(PAIR[0])):
                for results in all_results(PAIR):
                    self.check(PAIR, graph, pending, changed, results)

    def test_the_rule_holds_at_every_target_of_all_graphs_with_three_targets(self):
        graphs, results = all_graphs(TRIO), all_results(TRIO)
        self.assertEqual(len(graphs), 200)
        for number, graph in enumerate(graphs):
            for step, pending in enumerate(subsets(TRIO[1])):
                for changed in subsets(TRIO[0]):
                    for some in results[(number + step) % 5::5]:
                        self.check(TRIO, graph, pending, changed, some)

    def test_each_result_and_what_follows_from_it(self):
        graph = {"a": ["s"], "b": ["a"], "c": ["b"]}
        rows = [("new", ["new", "new", "new"]), ("same", ["same", "idle", "idle"]),
                ("failed", ["failed", "blocked", "blocked"])]
        for result, expected in rows:
            statuses = run_build(P, graph, [], ["s"], dict(ALL_NEW, a=result))
            self.assertEqual(statuses, dict(zip("abc", expected)))

    def test_blocked_comes_before_pending_and_changed(self):
        graph = {"a": ["s"], "b": ["a", "s"], "c": ["s"]}
        statuses = run_build(P, graph, ["b"], ["s"], dict(ALL_NEW, a="failed"))
        self.assertEqual(statuses, {"a": "failed", "b": "blocked", "c": "new"})

    def test_a_dependency_that_is_greater_is_processed_first(self):
        graph = {"a": ["c"], "b": ["a"], "c": ["u"]}
        self.assertEqual(run_build(P, graph, [], ["u"], ALL_NEW), ALL_NEW)

    def test_nothing_changed_and_nothing_pending(self):
        statuses = run_build(P, G, [], [], ALL_NEW)
        self.assertEqual(statuses, {"a": "idle", "b": "idle", "c": "idle"})

    def test_a_pending_target_without_dependencies_runs(self):
        graph = {"a": [], "b": [], "c": []}
        statuses = run_build(P, graph, ["b"], ["s", "u"], dict(ALL_NEW, b="same"))
        self.assertEqual(statuses, {"a": "idle", "b": "same", "c": "idle"})

    def test_the_lists_may_be_in_any_order(self):
        graph = {"a": ["s"], "b": ["u"], "c": []}
        for pending in (["b", "c"], ["c", "b"]):
            for changed in (["s", "u"], ["u", "s"]):
                statuses = run_build(P, graph, pending, changed, dict(ALL_NEW, c="failed"))
                self.assertEqual(statuses, {"a": "new", "b": "new", "c": "failed"})

    def test_no_targets(self):
        self.assertEqual(run_build((["s"], []), {}, [], ["s"], {}), {})

    def test_lists_of_other_names(self):
        for pending in (["s"], ["x"], ["a", "a"], ("a",), {"a": 1}, "a", None, [None], [["a"]]):
            with self.assertRaises(InvalidNames):
                run_build(P, G, pending, [], ALL_NEW)
        for changed in (["a"], ["x"], ["s", "s"], ("s",), {"s": 1}, "s", None, [None], [["s"]]):
            with self.assertRaises(InvalidNames):
                run_build(P, G, [], changed, ALL_NEW)

    def test_wrong_results(self):
        wrong = [
            dict(ALL_NEW, a="idle"), dict(ALL_NEW, a="blocked"), dict(ALL_NEW, a="runs"),
            dict(ALL_NEW, a=None), dict(ALL_NEW, s="new"), {"a": "new", "b": "new"}, {}, None,
            {"a": "new", "b": "new", "s": "new"}, list(ALL_NEW.items()), dict(ALL_NEW, a=["new"]),
        ]
        for results in wrong:
            with self.assertRaises(InvalidResults):
                run_build(P, G, [], [], results)


class RunBuilds(unittest.TestCase):
    def test_each_build_has_the_broken_targets_of_the_one_before_as_pending(self):
        everything = [
            (changed, results) for changed in subsets(P[0])[::-1] for results in all_results(P)
        ]
        for start in range(len(everything)):
            plans = everything[start::17] + everything[:start:5]
            log = run_builds(P, G, plans)
            self.assertEqual(len(log), len(plans))
            pending = []
            for (changed, results), build in zip(plans, log):
                statuses = run_build(P, G, pending, changed, results)
                self.assertEqual(build, (sorted(changed), statuses))
                pending = [t for t in statuses if statuses[t] in ("failed", "blocked")]

    def test_a_graph_explains_what_it_does(self):
        plans = [(["u", "s"], dict(ALL_NEW, b=word)) for word in RESULTS * 3]
        for graph in all_graphs(TRIO):
            self.assertIs(explains(P, graph, run_builds(P, graph, plans)), True)

    def test_the_changed_sources_are_sorted_in_the_log(self):
        log = run_builds(P, G, [(["u", "s"], ALL_NEW)])
        self.assertEqual(log, [(["s", "u"], ALL_NEW)])

    def test_from_0_to_200_plans(self):
        self.assertEqual(run_builds(P, G, []), [])
        plan = ([], dict(ALL_NEW, a="failed"))
        self.assertEqual(len(run_builds(P, G, [plan] * 200)), 200)
        with self.assertRaises(InvalidLog):
            run_builds(P, G, [plan] * 201)

    def test_wrong_plans(self):
        wrong = [
            [(["a"], ALL_NEW)], [(["s", "s"], ALL_NEW)], [(("s",), ALL_NEW)], [(None, ALL_NEW)],
            [([], dict(ALL_NEW, a="idle"))], [([], {})], [([], None)], [[[], ALL_NEW]],
            [([], ALL_NEW, [])], [([],)], [([], ALL_NEW), None], (([], ALL_NEW),), None, {}, "",
            [([], dict(ALL_NEW, s="new"))],
        ]
        for plans in wrong:
            with self.assertRaises(InvalidLog):
                run_builds(P, G, plans)


class PendingIn(unittest.TestCase):
    def test_every_index_of_a_log(self):
        log = [
            ([], {"a": "failed", "b": "blocked", "c": "new"}),
            ([], {"a": "same", "b": "idle", "c": "failed"}),
            ([], {"a": "idle", "b": "blocked", "c": "blocked"}),
        ]
        found = [pending_in(P, log, index) for index in range(4)]
        self.assertEqual(found, [[], ["a", "b"], ["c"], ["b", "c"]])

    def test_nothing_is_pending_at_first(self):
        self.assertEqual(pending_in(P, [], 0), [])

    def test_the_next_build_of_the_longest_log(self):
        log = [([], {"a": "idle", "b": "failed", "c": "idle"})] * 200
        self.assertEqual(pending_in(P, log, 200), ["b"])
        with self.assertRaises(InvalidNumber):
            pending_in(P, log, 201)

    def test_wrong_numbers(self):
        for index in (-1, 4, 10 ** 29, True, False, 1.0, "1", None, [1], (1,)):
            with self.assertRaises(InvalidNumber):
                pending_in(P, L, index)


class Mismatches(unittest.TestCase):
    def test_all_graphs_and_logs_of_one_build(self):
        for graph in all_graphs(TRIO):
            for build in all_builds(TRIO)[::3]:
                self.check(TRIO, graph, [build])

    def test_all_graphs_and_logs_of_two_builds(self):
        builds = all_builds(PAIR)
        for graph in all_graphs(PAIR):
            for first in builds:
                for second in builds[::3]:
                    self.check(PAIR, graph, [first, second])

    def check(self, project, graph, log):
        found = mismatches(project, graph, log)
        expected = found[0] if found else None
        self.assertEqual(first_mismatch(project, graph, log), expected, (graph, log))
        self.assertIs(explains(project, graph, log), not found)

    def test_each_word(self):
        graph = {"a": ["s"], "b": ["a"]}
        rows = [
            ([([], {"a": "idle", "b": "same"})], (0, "b", "idle")),
            ([(["s"], {"a": "idle", "b": "idle"})], (0, "a", "runs")),
            ([(["s"], {"a": "failed", "b": "same"})], (0, "b", "blocked")),
        ]
        for log, expected in rows:
            self.assertEqual(first_mismatch(PAIR, graph, log), expected)

    def test_the_rule_is_applied_to_the_logged_statuses(self):
        # The status of a is wrong, but it is what b and c are compared with.
        log = [([], {"a": "new", "b": "failed", "c": "blocked"})]
        self.assertEqual(first_mismatch(P, G, log), (0, "a", "idle"))

    def test_the_first_build_comes_before_the_least_target(self):
        graph = {"a": ["s"], "b": ["s"]}
        log = [(["s"], {"a": "same", "b": "idle"}), (["s"], {"a": "idle", "b": "idle"})]
        self.assertEqual(first_mismatch(PAIR, graph, log), (0, "b", "runs"))
        self.assertEqual(first_mismatch(PAIR, graph, log[1:] + log[:1]), (0, "a", "runs"))

    def test_a_pending_target_is_not_idle(self):
        log = [(["s"], {"a": "failed", "b": "idle"}), ([], {"a": "idle", "b": "idle"})]
        self.assertEqual(first_mismatch(PAIR, {"a": ["s"], "b": []}, log), (1, "a", "runs"))

    def test_nothing_is_pending_in_the_first_build(self):
        log = [([], {"a": "new", "b": "idle"})]
        self.assertEqual(first_mismatch(PAIR, {"a": [], "b": []}, log), (0, "a", "idle"))

    def test_every_graph_explains_the_empty_log(self):
        for graph in all_graphs(PAIR):
            self.assertIs(explains(PAIR, graph, []), True)
            self.assertIsNone(first_mismatch(PAIR, graph, []))


class Causes(unittest.TestCase):
    def check(self, project, graph, log, index, target):
        path = cause_of(project, graph, log, index, target)
        changed, statuses = log[index]
        pending = pending_in(project, log, index)
        status = statuses[target]
        if status == "idle":
            self.assertIsNone(path)
            return
        self.assertIs(path.__class__, list)
        self.assertEqual(path[-1], target)
        for name, follower in zip(path, path[1:]):
            self.assertIn(name, graph[follower])
        if status == "blocked":
            self.assertEqual(statuses[path[0]], "failed")
            self.assertEqual([statuses[name] for name in path[1:]], ["blocked"] * (len(path) - 1))
        elif target in pending:
            self.assertEqual(path, [target])
        else:
            start = path[0]
            self.assertGreater(len(path), 1)
            self.assertTrue(start in changed or (start in pending and statuses[start] == "new"))
            self.assertEqual([statuses[name] for name in path[1:-1]], ["new"] * (len(path) - 2))

    def test_all_graphs_with_three_targets(self):
        results = all_results(TRIO)
        for number, graph in enumerate(all_graphs(TRIO)):
            for step in range(6):
                plans = [
                    (["s"], results[(number + 5 * step) % 27]),
                    ([], results[(number * 7 + step) % 27]),
                    (["s"], results[(number * 11 + 3 * step) % 27]),
                ]
                log = run_builds(TRIO, graph, plans)
                for index, target in product(range(3), TRIO[1]):
                    self.check(TRIO, graph, log, index, target)

    def test_the_only_path_of_each_kind(self):
        log = L + [(["s"], ALL_NEW)]
        found = [cause_of(P, G, log, index, "c") for index in range(4)]
        self.assertEqual(found[0], ["a", "b", "c"])
        self.assertEqual(found[1], ["c"])
        self.assertEqual(found[2], ["u", "b", "c"])
        self.assertEqual(found[3], ["s", "a", "b", "c"])
        self.assertIsNone(cause_of(P, G, log, 2, "a"))

    def test_new_targets_stand_between_the_ends(self):
        graph = {"a": ["s"], "b": ["a"], "c": ["b"]}
        log = run_builds(P, graph, [(["s"], dict(ALL_NEW, c="same"))])
        self.assertEqual(cause_of(P, graph, log, 0, "c"), ["s", "a", "b", "c"])
        self.assertEqual(cause_of(P, graph, log, 0, "a"), ["s", "a"])

    def test_a_pending_target_is_its_own_cause_unless_it_is_blocked_again(self):
        graph = {"a": ["s"], "b": ["a"], "c": ["b"]}
        failing = dict(ALL_NEW, a="failed")
        log = run_builds(P, graph, [(["s"], failing), (["s"], failing), (["s"], ALL_NEW)])
        self.assertEqual(cause_of(P, graph, log, 1, "a"), ["a"])
        self.assertEqual(cause_of(P, graph, log, 1, "b"), ["a", "b"])
        self.assertEqual(cause_of(P, graph, log, 1, "c"), ["a", "b", "c"])
        self.assertEqual([cause_of(P, graph, log, 2, t) for t in "abc"], [["a"], ["b"], ["c"]])

    def test_a_changed_dependency_does_not_block(self):
        graph = {"a": [], "b": ["s"], "c": ["a", "b", "s"]}
        log = run_builds(P, graph, [(["s"], dict(ALL_NEW, b="failed"))])
        self.assertEqual(cause_of(P, graph, log, 0, "c"), ["b", "c"])

    def test_the_order_of_the_errors(self):
        other = {"a": [], "b": [], "c": []}
        rows = [
            ((None, other, L, 9, "s"), InvalidProject), ((P, None, None, 9, "s"), InvalidGraph),
            ((P, other, None, 9, "s"), InvalidLog), ((P, other, L, 9, "s"), InvalidTarget),
            ((P, other, L, 9, "a"), InvalidGraph), ((P, G, L, 9, "a"), InvalidNumber),
            ((P, G, L, 9, "x"), InvalidTarget), ((P, other, L, 0, "a"), InvalidGraph),
        ]
        for args, error in rows:
            with self.assertRaises(error):
                cause_of(*args)

    def test_wrong_numbers(self):
        for index in (-1, 3, 10 ** 29, True, False, 1.0, "1", None, [1]):
            with self.assertRaises(InvalidNumber):
                cause_of(P, G, L, index, "a")
        with self.assertRaises(InvalidNumber):
            cause_of(P, G, [], 0, "a")

    def test_wrong_targets(self):
        for target in ("s", "x", "", None, 0, ["a"], b"a"):
            with self.assertRaises(InvalidTarget):
                cause_of(P, G, L, 0, target)


if __name__ == "__main__":
    unittest.main()
