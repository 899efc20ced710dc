"""Points 5 to 8 and 13: every part of a project, a graph, a build or a log counts, at every call."""

import copy
import unittest
from itertools import permutations

from tests.support import RESULTS, STATUSES, G, L, P, Wild, odd_values
from tests.worlds import big_world
from whyreran.builds import (
    cause_of,
    explains,
    first_mismatch,
    pending_in,
    run_build,
    run_builds,
)
from whyreran.errors import (
    InvalidGraph,
    InvalidLog,
    InvalidNames,
    InvalidProject,
    InvalidResults,
    RerunError,
)
from whyreran.explaining import find_obstruction, is_explained
from whyreran.projects import (
    is_build,
    is_graph,
    is_log,
    is_name,
    is_project,
    names_above,
    names_of,
    targets_below,
)

R = {"a": "new", "b": "same", "c": "failed"}
SOME = odd_values() + [
    "b", "c", "u", "new", "idle", "runs", "blocked", "a" * 13, "a\n", "s ", ["c"], ["u"],
    ["b", "s"], ["s", "b"], ["a", "b", "s"], ["s", "u"], ["u", "s"], ["x"], ["s", "s", "u"],
    {"a": "idle", "b": "idle", "c": "idle"}, {"c": "new", "a": "idle", "b": "blocked"},
    {"a": [], "b": [], "c": []}, {"a": "new", "b": "new"}, ([], {"a": "new", "b": "new", "c": "new"}),
]


# The forms once more, part by part and in the words of the document.

def name_by_parts(value):
    if not isinstance(value, str) or not 1 <= len(value) <= 12:
        return False
    letters = "abcdefghijklmnopqrstuvwxyz"
    return value[0] in letters and all(sign in letters + "0123456789_." for sign in value)


def ascending_names(value, names):
    if not isinstance(value, list):
        return False
    for at, name in enumerate(value):
        if not isinstance(name, str) or name not in names or (at and not value[at - 1] < name):
            return False
    return True


def project_by_parts(value):
    if not isinstance(value, tuple) or len(value) != 2:
        return False
    for names in value:
        if not isinstance(names, list) or not all(name_by_parts(name) for name in names):
            return False
        if not ascending_names(names, list(names)):
            return False
    sources, targets = value
    if len(targets) > 20 or len(sources) + len(targets) > 40:
        return False
    return not [name for name in sources if name in targets]


def words_by_parts(value, targets, words):
    if not isinstance(value, dict) or not all(isinstance(key, str) for key in value):
        return False
    if sorted(value) != targets:
        return False
    return all(isinstance(word, str) and word in words for word in value.values())


def graph_by_parts(value):
    if not isinstance(value, dict) or not all(isinstance(key, str) for key in value):
        return False
    if sorted(value) != P[1]:
        return False
    if not all(ascending_names(names, P[0] + P[1]) for names in value.values()):
        return False
    # Without a cycle, some order of the targets has each one behind its dependencies.
    return any(
        all(order.index(name) < at for at, target in enumerate(order)
            for name in value[target] if name in order)
        for order in permutations(P[1])
    )


def build_by_parts(value):
    if not isinstance(value, tuple) or len(value) != 2:
        return False
    return ascending_names(value[0], P[0]) and words_by_parts(value[1], P[1], STATUSES)


def log_by_parts(value):
    return isinstance(value, list) and len(value) <= 200 and all(build_by_parts(x) for x in value)


def plans_by_parts(value):
    if not isinstance(value, list) or len(value) > 200:
        return False
    for plan in value:
        if not isinstance(plan, tuple) or len(plan) != 2:
            return False
        changed, results = plan
        if not isinstance(changed, list) or not all(isinstance(name, str) for name in changed):
            return False
        if not ascending_names(sorted(changed), P[0]) or not words_by_parts(results, P[1], RESULTS):
            return False
    return True


def changed_somewhere(value, part):
    """Return all values that come from a value by putting the part in the place of one in it."""
    found = [part]
    if isinstance(value, (list, tuple)):
        for at, inner in enumerate(value):
            for other in changed_somewhere(inner, part):
                row = list(value)
                row[at] = other
                found.append(value.__class__(row))
        found.append(value.__class__([*value, part]))
    if isinstance(value, dict):
        for key in value:
            for other in changed_somewhere(value[key], part):
                found.append({**value, key: other})
            # A wild object has the hash of "a", so it cannot stand beside that key.
            if isinstance(part, (str, int, type(None))) or (isinstance(part, Wild) and key == "a"):
                others = {other: value[other] for other in value if other != key}
                found.append({part: value[key], **others})
                found.append({**others, part: value[key]})
    return found


class EveryPart(unittest.TestCase):
    def test_projects(self):
        seen = set()
        for part in SOME:
            for value in changed_somewhere(P, part):
                expected = project_by_parts(value)
                seen.add(expected)
                self.assertIs(is_project(value), expected, repr(value))
                if not expected:
                    with self.assertRaises(InvalidProject):
                        names_of(value)
        self.assertEqual(seen, {True, False})

    def test_the_names_of_a_project(self):
        names = ["a" * 12, "a" * 13, "9a", "_a", ".a", "a9", "a_", "a.", "aA", "A", "a-", "", "a\n"]
        for name in names:
            for value in ([], [name]), ([name], []), (["b", name], ["c"]), ([], ["B", name]):
                self.assertIs(is_project(value), project_by_parts(value), repr(value))
            self.assertIs(is_project(([name], ["zz"])), name_by_parts(name), repr(name))
            self.assertIs(is_name(name), name_by_parts(name), repr(name))

    def test_a_project_without_any_name(self):
        self.assertIs(is_project(([], [])), True)
        self.assertEqual(names_of(([], [])), [])
        self.assertIs(is_graph(([], []), {}), True)
        for value in SOME:
            for spoiled in ([value], []), ([], [value]):
                self.assertIs(is_project(spoiled), project_by_parts(spoiled), repr(value))

    def test_names(self):
        for part in SOME + ["a" * 12, "a.b", "a_", "A", "a-b", "\u00e4", "a\u00e4", "a" * 11 + "."]:
            self.assertIs(is_name(part), name_by_parts(part), repr(part))

    def test_graphs(self):
        seen = set()
        for part in SOME:
            for value in changed_somewhere(G, part):
                expected = graph_by_parts(value)
                seen.add(expected)
                self.assertIs(is_graph(P, value), expected, repr(value))
                if not expected:
                    with self.assertRaises(InvalidGraph):
                        names_above(P, value, "a")
        self.assertEqual(seen, {True, False})

    def test_builds_and_logs(self):
        seen = set()
        for part in SOME:
            for value in changed_somewhere(L[0], part):
                self.assertIs(is_build(P, value), build_by_parts(value), repr(value))
            for value in changed_somewhere(L, part):
                expected = log_by_parts(value)
                seen.add(expected)
                self.assertIs(is_log(P, value), expected, repr(value))
                if not expected:
                    for function, args in [(pending_in, (0,)), (is_explained, ())]:
                        with self.assertRaises(InvalidLog):
                            function(P, value, *args)
        self.assertEqual(seen, {True, False})

    def test_plans_and_results(self):
        for part in SOME:
            for value in changed_somewhere([(["u", "s"], R), ([], R)], part):
                self.check(InvalidLog, not plans_by_parts(value), run_builds, P, G, value)
            for value in changed_somewhere(R, part):
                right = words_by_parts(value, P[1], RESULTS)
                self.check(InvalidResults, not right, run_build, P, G, [], [], value)
            for value in changed_somewhere(["u", "s"], part):
                right = plans_by_parts([(value, R)])
                self.check(InvalidNames, not right, run_build, P, G, [], value, R)

    def check(self, error, is_wrong, function, *args):
        try:
            function(*args)
            raised = None
        except RerunError as caught:
            raised = caught.__class__
        self.assertEqual(raised, error if is_wrong else None, repr(args))

    def test_the_last_part_of_the_largest_values(self):
        project, graph, log = big_world(31, 20, 20, 200)
        self.assertIs(is_log(project, log), True)
        self.assertIs(is_graph(project, graph), True)
        for word in ("New", "", None, Wild(), ["new"], {}):
            spoiled = copy.deepcopy(log)
            spoiled[199][1]["t19"] = word
            self.assertIs(is_log(project, spoiled), False)
        for name in ("t00", "s00", "x", None, Wild(), ["s00"], {}):
            spoiled = log[:199] + [(["s00", name], log[199][1])]
            self.assertIs(is_log(project, spoiled), False)
            spoiled = dict(graph, t19=["t01", name])
            self.assertIs(is_graph(project, spoiled), False)


class AnewAtEachCall(unittest.TestCase):
    """Nothing is kept from one call to the next, as values may be changed in place."""

    def test_a_graph_that_is_changed_in_place(self):
        graph = copy.deepcopy(G)
        self.assertEqual(names_above(P, graph, "c"), ["a", "b", "s", "u"])
        graph["b"].remove("a")
        self.assertEqual(names_above(P, graph, "c"), ["b", "u"])
        self.assertEqual(targets_below(P, graph, "s"), ["a"])
        graph["a"][:] = ["c"]
        self.assertEqual(names_above(P, graph, "a"), ["b", "c", "u"])
        graph["b"].insert(0, "a")
        self.assertIs(is_graph(P, graph), False)
        with self.assertRaises(InvalidGraph):
            names_above(P, graph, "a")
        graph["b"].pop(0)
        self.assertIs(is_graph(P, graph), True)

    def test_a_log_that_is_changed_in_place(self):
        log = copy.deepcopy(L)
        self.assertIs(explains(P, G, log), True)
        self.assertEqual(pending_in(P, log, 3), [])
        log[2][1]["c"] = "blocked"
        self.assertEqual(pending_in(P, log, 3), ["c"])
        self.assertEqual(first_mismatch(P, G, log), (2, "c", "runs"))
        with self.assertRaises(InvalidGraph):
            cause_of(P, G, log, 0, "a")
        log[2][1]["c"] = "Same"
        self.assertIs(is_log(P, log), False)
        for function, args in [(pending_in, (0,)), (find_obstruction, ())]:
            with self.assertRaises(InvalidLog):
                function(P, log, *args)
        log[2][1]["c"] = "same"
        log[2][0].append("s")
        self.assertIs(is_log(P, log), False)
        log[2][0].sort()
        self.assertEqual(first_mismatch(P, G, log), (2, "a", "runs"))
        log[2][0].remove("s")
        self.assertEqual(cause_of(P, G, log, 2, "c"), ["u", "b", "c"])

    def test_a_project_that_is_changed_in_place(self):
        project = copy.deepcopy(P)
        self.assertIs(is_graph(project, G), True)
        project[0].append("z")
        self.assertEqual(names_of(project), ["a", "b", "c", "s", "u", "z"])
        project[1].append("d")
        self.assertIs(is_graph(project, G), False)
        project[1].append("a")
        self.assertIs(is_project(project), False)
        with self.assertRaises(InvalidProject):
            is_graph(project, G)


if __name__ == "__main__":
    unittest.main()
