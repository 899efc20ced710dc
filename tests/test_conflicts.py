"""Points 58 to 61: the first conflict of a log, its cores and its culprits."""

import random
import unittest
from itertools import combinations

from tests.support import Wild, all_builds, odd_values
from tests.worlds import (
    BARE,
    DRY,
    PAIR,
    TRIO,
    TWINS,
    VOID,
    big_world,
    chain_world,
    dense_world,
    fitting_graphs,
    mixed_logs,
    random_build,
    random_plans,
)
from whyreran.builds import run_builds
from whyreran.conflicts import conflict_core, culprits, first_conflict, is_core
from whyreran.errors import InvalidLog, InvalidProject
from whyreran.explaining import find_obstruction, is_explained

NEW = {"a": "new", "b": "new"}
IDLE = {"a": "idle", "b": "idle"}
Z = [(["s"], NEW), ([], IDLE), (["s"], IDLE)]


def logs_with_conflicts():
    """Return pairs (project, log), among them longer logs with several cores and with lapses."""
    found = mixed_logs()[::2]
    rng = random.Random(21)
    for project in (PAIR, TWINS, TRIO):
        for _ in range(60):
            found.append((project, [random_build(rng, project) for _ in range(rng.randrange(4, 8))]))
        quiet = [build for build in all_builds(project)
                 if not {"failed", "blocked"} & set(build[1].values())]
        for _ in range(150):
            found.append((project, [rng.choice(quiet) for _ in range(rng.randrange(3, 8))]))
    return found


def incompatible_sets(project, log):
    """Return all sets of builds that no graph fits, with the pending targets of the whole log."""
    return [
        set(indexes) for size in range(len(log) + 1)
        for indexes in combinations(range(len(log)), size)
        if not fitting_graphs(project, log, indexes)
    ]


def least_sets(sets):
    return [sorted(one) for one in sets if not any(other < one for other in sets)]


class AllLogs(unittest.TestCase):
    def test_everything_for_all_graphs_that_fit_the_builds(self):
        sizes = set()
        for project, log in logs_with_conflicts():
            sets = incompatible_sets(project, log)
            cores = least_sets(sets)
            sizes |= {len(core) for core in cores}
            firsts = [n for n in range(len(log) + 1) if set(range(n)) in sets]
            expected = firsts[0] if firsts else None
            self.assertEqual(first_conflict(project, log), expected, log)
            core = conflict_core(project, log)
            self.assertEqual(core is None, not cores, log)
            self.assertIn(core, cores + [None])
            everything = set(range(len(log)))
            expected = sorted(i for i in everything if everything - {i} not in sets)
            self.assertEqual(culprits(project, log), expected, log)
            if cores:
                self.assertEqual(set(expected), set.intersection(*[set(x) for x in cores]))
            self.check_cores(project, log, cores)
        self.assertLessEqual({1, 2, 3}, sizes)

    def check_cores(self, project, log, cores):
        for size in range(len(log) + 1):
            for indexes in combinations(range(len(log)), size):
                expected = list(indexes) in cores
                self.assertIs(is_core(project, log, list(indexes)), expected, (log, indexes))
        for core in cores:
            if len(core) > 1:
                self.assertIs(is_core(project, log, core[::-1]), False)
            self.assertIs(is_core(project, log, core + core[-1:]), False)
            self.assertIs(is_core(project, log, tuple(core)), False)


class LargeLogs(unittest.TestCase):
    def spoiled(self, project, log, at, rng):
        """Return a log in which one status of a build is another one, so that no graph may explain it."""
        log = [(list(changed), dict(statuses)) for changed, statuses in log]
        statuses = log[at][1]
        target = rng.choice(project[1])
        statuses[target] = "idle" if statuses[target] != "idle" else "new"
        return log

    def test_logs_of_200_builds(self):
        rng = random.Random(31)
        worlds = [big_world(seed, 20, 20, 1)[:2] for seed in (1, 2)]
        worlds += [chain_world(20, 20), dense_world(20, 20), big_world(3, 5, 20, 1)[:2]]
        found = 0
        for project, graph in worlds:
            log = run_builds(project, graph, random_plans(rng, project, 200))
            self.assertIsNone(first_conflict(project, log))
            self.assertIsNone(conflict_core(project, log))
            self.assertEqual(culprits(project, log), list(range(200)))
            for at in (0, 90, 199):
                bad = self.spoiled(project, log, at, rng)
                if not is_explained(project, bad):
                    found += 1
                    self.check(project, bad)
        self.assertGreater(found, 5)

    def check(self, project, log):
        least = first_conflict(project, log)
        # No pending target of the first builds depends on the builds behind them.
        self.assertTrue(is_explained(project, log[:least - 1]))
        self.assertFalse(is_explained(project, log[:least]))
        core = conflict_core(project, log)
        self.assertIs(is_core(project, log, core), True)
        self.assertIs(is_core(project, log, list(range(200))), False)
        self.assertIs(is_core(project, log, core[1:]), False)
        blamed = culprits(project, log)
        self.assertLessEqual(set(blamed), set(core))
        for index in core:
            others = [other for other in core if other != index]
            self.assertIs(is_core(project, log, others), False)

    def test_a_core_of_many_builds(self):
        # Each build but the last one shows that the target does not depend on one of the sources.
        project, _ = dense_world(39, 1)
        names = project[0]
        log = [([name], {"t00": "idle"}) for name in names]
        log.append((names, {"t00": "new"}))
        self.assertEqual(conflict_core(project, log), list(range(40)))
        self.assertEqual(culprits(project, log), list(range(40)))
        self.assertEqual(first_conflict(project, log), 40)
        self.assertIs(is_core(project, log, list(range(40))), True)
        self.assertIs(is_core(project, log, list(range(1, 40))), False)
        twice = log + log
        core = conflict_core(project, twice)
        self.assertEqual(sorted(index % 40 for index in core), list(range(40)))
        self.assertEqual(culprits(project, twice), [])
        self.assertEqual(first_conflict(project, twice), 40)
        self.assertIs(is_core(project, twice, list(range(39, 79))), True)
        self.assertIs(is_core(project, twice, list(range(80))), False)


class Edges(unittest.TestCase):
    def test_the_empty_log_and_projects_without_names(self):
        for project, log in [(PAIR, []), (DRY, [(["s"], {})] * 3), (VOID, [([], {})] * 3)]:
            self.assertIsNone(first_conflict(project, log))
            self.assertIsNone(conflict_core(project, log))
            self.assertEqual(culprits(project, log), list(range(len(log))))
            self.assertIs(is_core(project, log, []), False)
            self.assertIs(is_core(project, log, [0]), False)

    def test_a_pending_target_that_is_idle(self):
        log = [(["s"], {"a": "failed", "b": "new"}), ([], IDLE), (["s"], NEW)]
        self.assertEqual(first_conflict(PAIR, log), 2)
        self.assertEqual(conflict_core(PAIR, log), [1])
        self.assertEqual(culprits(PAIR, log), [1])
        self.assertIs(is_core(PAIR, log, [1]), True)
        self.assertIs(is_core(PAIR, log, [0, 1]), False)

    def test_pending_targets_are_those_of_the_whole_log(self):
        # Build 1 would be in conflict with itself if it were the first one.
        log = [(["s"], {"a": "failed", "b": "new"}), ([], {"a": "new", "b": "idle"}),
               (["s"], {"a": "idle", "b": "new"})]
        self.assertEqual(first_conflict(PAIR, log[:2]), None)
        self.assertEqual(first_conflict(PAIR, log[1:]), 1)
        self.assertEqual(first_conflict(PAIR, log), 3)
        self.assertEqual(conflict_core(PAIR, log), [0, 2])
        self.assertIs(is_core(PAIR, log, [1, 2]), False)
        self.assertEqual(culprits(PAIR, log), [0, 2])

    def test_a_log_of_which_every_build_is_in_conflict_with_itself(self):
        for count in (2, 200):
            log = [([], NEW)] * count
            self.assertEqual(first_conflict(PAIR, log), 1)
            self.assertEqual(len(conflict_core(PAIR, log)), 1)
            self.assertEqual(culprits(PAIR, log), [])
            for index in (0, count - 1):
                self.assertIs(is_core(PAIR, log, [index]), True)
            self.assertIs(is_core(PAIR, log, [0, 1]), False)
        self.assertEqual(culprits(PAIR, [([], NEW)]), [0])
        self.assertEqual(conflict_core(BARE, [([], IDLE), ([], NEW)]), [1])

    def test_a_conflict_in_the_last_of_200_builds(self):
        log = [(["s"], NEW)] * 199 + [(["s"], IDLE)]
        self.assertEqual(first_conflict(PAIR, log), 200)
        self.assertEqual(culprits(PAIR, log), [199])
        core = conflict_core(PAIR, log)
        self.assertEqual([len(core), core[1]], [2, 199])
        self.assertEqual(find_obstruction(PAIR, log)[0], "group")


class AnyValue(unittest.TestCase):
    def test_any_value_in_the_place_of_a_core(self):
        for value in odd_values():
            self.assertIs(is_core(PAIR, Z, value), False, repr(value))
            for row in ([value], [0, value], [value, 2], [0, value, 2], [0, 2, value]):
                if value.__class__ is not int:
                    self.assertIs(is_core(PAIR, Z, row), False, repr(value))

    def test_lists_that_are_like_a_core(self):
        self.assertIs(is_core(PAIR, Z, [0, 2]), True)
        wrong = [
            (0, 2), [2, 0], [0, 0, 2], [0, 2, 2], [0, 3], [-3, 2], [-1, 0, 2], [0, 2.0], [False, 2],
            [0, True, 2], ["0", "2"], {0: 0, 2: 2}, {0, 2}, "02", b"02", [[0, 2]], [0, 10 ** 29],
            [0, None], [0, Wild()], range(0, 3, 2), iter([0, 2]), [0.0, 2.0], [0, 2, 3],
        ]
        for value in wrong:
            self.assertIs(is_core(PAIR, Z, value), False, repr(value))

    def test_the_order_of_the_errors(self):
        functions = [first_conflict, conflict_core, culprits, lambda p, z: is_core(p, z, None)]
        for function in functions:
            with self.assertRaises(InvalidProject):
                function((["s"], ["s"]), None)
            for log in (None, Z + [None], [(["s"], {"a": "new"})], Z * 67):
                with self.assertRaises(InvalidLog):
                    function(PAIR, log)


if __name__ == "__main__":
    unittest.main()
