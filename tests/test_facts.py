"""Points 10 to 12 and 22 to 25: exclusions, permitted names, needs and closures."""

import unittest

from tests.support import P, subsets
from tests.worlds import (
    big_world,
    closure_by_definition,
    excluding_builds,
    explaining_graphs,
    graphs_of,
    lapses_by_definition,
    mixed_logs,
    needs_by_definition,
    permitted_by_definition,
)
from whyreran.errors import InvalidName, InvalidNames, InvalidTarget
from whyreran.facts import closure_without, exclusion, needs_of, permitted_names

L = [
    (["s"], {"a": "failed", "b": "blocked", "c": "new"}),
    ([], {"a": "same", "b": "new", "c": "idle"}),
]


class AllLogs(unittest.TestCase):
    def test_exclusions_are_those_of_the_first_build(self):
        for project, log in mixed_logs():
            for target in project[1]:
                for name in project[0] + project[1]:
                    if name != target:
                        builds = excluding_builds(log, target, name)
                        expected = builds[0] if builds else None
                        self.assertEqual(exclusion(project, log, target, name), expected, log)

    def test_permitted_names_and_needs(self):
        for project, log in mixed_logs():
            for target in project[1]:
                permitted = permitted_by_definition(project, log, target)
                self.assertEqual(permitted_names(project, log, target), permitted, log)
                needs = needs_by_definition(project, log, target)
                self.assertEqual(needs_of(project, log, target), needs, log)

    def test_closures_without_any_names(self):
        for project, log in mixed_logs():
            for names in subsets(project[0] + project[1]):
                expected = closure_by_definition(project, log, names)
                self.assertEqual(closure_without(project, log, names), expected, (log, names))
                self.assertEqual(closure_without(project, log, names[::-1]), expected)

    def test_a_graph_explains_a_log_if_and_only_if_point_10_says_so(self):
        for project, log in mixed_logs():
            expected = []
            for graph in graphs_of(project):
                if not lapses_by_definition(log) and all(
                    set(graph[t]) <= set(permitted_names(project, log, t))
                    and all(set(graph[t]) & set(names) for _, names in needs_of(project, log, t))
                    for t in project[1]
                ):
                    expected.append(graph)
            self.assertEqual(explaining_graphs(project, log), expected, log)

    def test_large_logs(self):
        for seed, count in [(1, 60), (2, 200)]:
            project, _, log = big_world(seed, 20, 20, count)
            for target in project[1][::3]:
                self.assertEqual(
                    permitted_names(project, log, target),
                    permitted_by_definition(project, log, target),
                )
                self.assertEqual(
                    needs_of(project, log, target), needs_by_definition(project, log, target)
                )
            for names in ([], ["s03"], ["t07", "s01"], project[0][:10]):
                self.assertEqual(
                    closure_without(project, log, names),
                    closure_by_definition(project, log, names),
                )


class TheLogOfThePoints(unittest.TestCase):
    def test_what_point_12_says_of_it(self):
        found = {
            (target, name): exclusion(P, L, target, name)
            for target in "abc" for name in "abcsu" if name != target
        }
        excluded = {pair: found[pair] for pair in found if found[pair]}
        self.assertEqual(excluded, {
            ("a", "b"): (0, "broken"), ("c", "a"): (0, "broken"), ("c", "b"): (0, "broken"),
        })
        self.assertEqual([needs_of(P, L, target) for target in "abc"], [
            [(0, ["c", "s"])], [(0, ["a"])], [(0, ["s"])],
        ])
        self.assertEqual(closure_without(P, L, []), ["a", "b", "c"])
        self.assertEqual(closure_without(P, L, ["s"]), [])


class Exclusions(unittest.TestCase):
    def find(self, changed, statuses, target, name):
        return exclusion(P, [(changed, dict(zip("abc", statuses)))], target, name)

    def test_an_idle_target_excludes_what_is_changed_or_broken(self):
        self.assertEqual(self.find(["s"], ["idle", "idle", "idle"], "a", "s"), (0, "changed"))
        self.assertEqual(self.find([], ["idle", "new", "idle"], "a", "b"), (0, "changed"))
        self.assertEqual(self.find([], ["idle", "failed", "idle"], "a", "b"), (0, "broken"))
        self.assertEqual(self.find([], ["idle", "blocked", "idle"], "a", "b"), (0, "broken"))
        self.assertIsNone(self.find(["u"], ["idle", "same", "idle"], "a", "b"))
        self.assertIsNone(self.find(["u"], ["idle", "idle", "idle"], "a", "s"))

    def test_a_target_that_ran_excludes_what_is_broken(self):
        for status in ("new", "same", "failed"):
            self.assertEqual(self.find([], [status, "failed", "new"], "a", "b"), (0, "broken"))
            self.assertEqual(self.find([], [status, "blocked", "new"], "a", "b"), (0, "broken"))
            self.assertIsNone(self.find(["s"], [status, "failed", "new"], "a", "c"))
            self.assertIsNone(self.find(["s"], [status, "failed", "new"], "a", "s"))

    def test_a_blocked_target_excludes_nothing(self):
        for name in ("b", "c", "s", "u"):
            self.assertIsNone(self.find(["s"], ["blocked", "failed", "new"], "a", name))

    def test_a_pending_target_that_ran_excludes_what_is_broken(self):
        log = [([], {"a": "failed", "b": "same", "c": "same"}),
               (["s"], {"a": "same", "b": "failed", "c": "new"})]
        self.assertEqual(exclusion(P, log, "a", "b"), (1, "broken"))
        self.assertIsNone(exclusion(P, log, "a", "c"))

    def test_the_first_of_several_builds(self):
        log = [([], {"a": "same", "b": "same", "c": "same"}),
               ([], {"a": "same", "b": "failed", "c": "same"}),
               ([], {"a": "idle", "b": "new", "c": "same"})]
        self.assertEqual(exclusion(P, log, "a", "b"), (1, "broken"))
        self.assertEqual(exclusion(P, log[::-1], "a", "b"), (0, "changed"))

    def test_the_empty_log_excludes_nothing(self):
        self.assertIsNone(exclusion(P, [], "a", "b"))
        self.assertIsNone(exclusion(P, [], "a", "s"))

    def test_the_last_of_200_builds(self):
        idle = (["u"], {"a": "idle", "b": "same", "c": "same"})
        log = [([], {"a": "same", "b": "same", "c": "same"})] * 199 + [idle]
        self.assertEqual(exclusion(P, log, "a", "u"), (199, "changed"))

    def test_wrong_names(self):
        for name in ("a", "x", "", None, 0, ["s"], ("s",), b"s"):
            with self.assertRaises(InvalidName):
                exclusion(P, L, "a", name)
        for target in ("s", "x", "", None, 0, ["a"], b"a"):
            with self.assertRaises(InvalidTarget):
                exclusion(P, L, target, "s")
            with self.assertRaises(InvalidTarget):
                exclusion(P, L, target, target)


class PermittedNamesAndNeeds(unittest.TestCase):
    def test_the_empty_log(self):
        self.assertEqual(permitted_names(P, [], "b"), ["a", "c", "s", "u"])
        self.assertEqual(needs_of(P, [], "b"), [])
        self.assertEqual(permitted_names(([], ["a"]), [], "a"), [])

    def test_a_target_is_not_permitted_for_itself(self):
        for log in ([], L, [([], {"a": "new", "b": "new", "c": "idle"})]):
            for target in "abc":
                self.assertNotIn(target, permitted_names(P, log, target))
                for _, names in needs_of(P, log, target):
                    self.assertNotIn(target, names)

    def test_the_names_of_sources_and_targets_are_mixed(self):
        project = (["b", "z"], ["a", "c"])
        self.assertEqual(permitted_names(project, [], "a"), ["b", "c", "z"])
        log = [(["b", "z"], {"a": "new", "c": "new"})]
        self.assertEqual(needs_of(project, log, "a"), [(0, ["b", "c", "z"])])

    def test_empty_needs(self):
        log = [([], {"a": "new", "b": "idle", "c": "blocked"})]
        self.assertEqual(needs_of(P, log, "a"), [(0, [])])
        self.assertEqual(needs_of(P, log, "b"), [])
        self.assertEqual(needs_of(P, log, "c"), [(0, [])])

    def test_a_pending_target_has_a_need_only_if_it_is_blocked(self):
        log = [(["s"], {"a": "failed", "b": "blocked", "c": "failed"}),
               (["s"], {"a": "failed", "b": "blocked", "c": "new"})]
        self.assertEqual(needs_of(P, log, "a"), [(0, ["s"])])
        # In build 0 c is broken as well, and only in build 1 it is not.
        self.assertEqual(needs_of(P, log, "b"), [(0, ["a", "c"]), (1, ["a"])])
        self.assertEqual(needs_of(P, log, "c"), [(0, ["s"])])

    def test_needs_hold_permitted_names_only(self):
        log = [(["s", "u"], {"a": "new", "b": "idle", "c": "idle"}),
               (["s"], {"a": "idle", "b": "idle", "c": "idle"})]
        self.assertEqual(needs_of(P, log, "a"), [(0, ["u"])])

    def test_wrong_targets(self):
        for function in (permitted_names, needs_of):
            for target in ("s", "x", "", None, 0, ["a"], b"a"):
                with self.assertRaises(InvalidTarget):
                    function(P, L, target)


class Closures(unittest.TestCase):
    def test_the_least_target_joins_first_again_after_each_step(self):
        project = (["s"], ["a", "b", "c", "d"])
        log = [(["s"], {"a": "blocked", "b": "same", "c": "failed", "d": "same"})]
        self.assertEqual(closure_without(project, log, []), ["b", "c", "a", "d"])
        self.assertEqual(closure_without(project, log, ["c"]), ["b", "d"])

    def test_the_order_can_differ_from_that_of_the_names(self):
        project = (["s"], ["a", "b", "c"])
        log = [(["s"], {"a": "blocked", "b": "same", "c": "failed"})]
        self.assertEqual(closure_without(project, log, []), ["b", "c", "a"])
        log = [(["s"], {"a": "blocked", "b": "failed", "c": "new"})]
        self.assertEqual(closure_without(project, log, []), ["b", "a", "c"])

    def test_without_all_names(self):
        self.assertEqual(closure_without(P, L, ["a", "b", "c", "s", "u"]), [])
        self.assertEqual(closure_without(P, [], ["s", "u"]), ["a", "b", "c"])
        self.assertEqual(closure_without(P, [], ["c", "a"]), ["b"])

    def test_a_target_with_an_empty_need_never_joins(self):
        log = [([], {"a": "new", "b": "idle", "c": "new"})]
        self.assertEqual(closure_without(P, log, []), ["b"])

    def test_it_does_not_depend_on_idle_pending_targets(self):
        log = [(["s"], {"a": "failed", "b": "failed", "c": "idle"}),
               ([], {"a": "idle", "b": "idle", "c": "idle"})]
        self.assertEqual(closure_without(P, log, []), ["a", "b", "c"])

    def test_wrong_lists_of_names(self):
        wrong = [
            ["x"], ["s", "s"], ["a", "a"], ("s",), "s", None, {"s": 1}, [None], [["s"]], [b"s"], 0,
        ]
        for names in wrong:
            with self.assertRaises(InvalidNames):
                closure_without(P, L, names)


if __name__ == "__main__":
    unittest.main()
