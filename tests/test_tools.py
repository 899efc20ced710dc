"""Points 62 and 63: the build tool, beside run_builds and with calls that are wrong or undone."""

import copy
import random
import unittest

from tests.support import G, P, Wild, holders, odd_values, shown, spoil, turned
from tests.worlds import DRY, PROJECTS, VOID, big_world, graphs_of, pending_before, random_plans
from whyreran.builds import run_build, run_builds
from whyreran.errors import (
    InvalidGraph,
    InvalidNames,
    InvalidProject,
    InvalidResults,
    NothingToUndo,
    TooLarge,
)
from whyreran.recorder import Recorder
from whyreran.tools import BuildTool

NEW = {"a": "new", "b": "new", "c": "new"}
FAILED = {"a": "failed", "b": "same", "c": "new"}


def state_of(tool):
    return shown([len(tool), tool.history(), tool.pending_targets()])


class BesideRunBuilds(unittest.TestCase):
    def test_long_rows_of_calls(self):
        rng = random.Random(41)
        for project in PROJECTS:
            graphs = graphs_of(project)
            for number in range(40):
                graph = rng.choice(graphs)
                tool, plans = BuildTool(project, graph), []
                for plan in random_plans(rng, project, 20):
                    if rng.random() < 0.3 and plans:
                        self.assertIsNone(tool.undo())
                        plans.pop()
                        continue
                    log = run_builds(project, graph, plans)
                    pending = pending_before(log, len(log))
                    expected = run_build(project, graph, pending, *plan)
                    self.assertEqual(tool.run(*plan), expected)
                    plans.append(plan)
                log = run_builds(project, graph, plans)
                self.assertEqual(tool.history(), log)
                self.assertEqual(tool.pending_targets(), pending_before(log, len(log)))
                self.assertEqual(len(tool), len(log))

    def test_200_builds_and_one_more(self):
        project, graph, log = big_world(9, 20, 20, 1)
        plans = random_plans(random.Random(9), project, 200)
        tool = BuildTool(project, graph)
        for plan in plans:
            tool.run(*plan)
        before = state_of(tool)
        for _ in range(2):
            with self.assertRaises(TooLarge) as caught:
                tool.run([], plans[0][1])
            self.assertEqual(vars(caught.exception), {"limit": 200})
            self.assertEqual(state_of(tool), before)
        self.assertEqual(tool.history(), run_builds(project, graph, plans))
        tool.undo()
        tool.run(*plans[5])
        self.assertEqual(tool.history(), run_builds(project, graph, plans[:199] + [plans[5]]))
        self.assertEqual(len(tool), 200)

    def test_140_builds_that_are_all_undone(self):
        project, graph, _ = big_world(10, 3, 6, 1)
        tool, other = BuildTool(project, graph), BuildTool(project, graph)
        for plan in random_plans(random.Random(10), project, 140):
            tool.run(*plan)
        self.assertNotEqual(tool, other)
        for left in range(139, -1, -1):
            self.assertIsNone(tool.undo())
            self.assertEqual(len(tool), left)
        self.assertEqual(tool, other)
        self.assertEqual(tool.history(), [])
        self.assertEqual(tool.pending_targets(), [])
        with self.assertRaises(NothingToUndo):
            tool.undo()
        statuses = tool.run(project[0], {target: "new" for target in project[1]})
        self.assertEqual(tool.history(), [(project[0], statuses)])


class TheLastBuild(unittest.TestCase):
    def test_undo_brings_back_the_pending_targets(self):
        tool = BuildTool(P, G)
        tool.run(["s"], FAILED)
        self.assertEqual(tool.pending_targets(), ["a", "b", "c"])
        tool.run([], NEW)
        self.assertEqual(tool.pending_targets(), [])
        tool.undo()
        self.assertEqual(tool.pending_targets(), ["a", "b", "c"])
        self.assertEqual(tool.run([], FAILED), {"a": "failed", "b": "blocked", "c": "blocked"})

    def test_changed_sources_in_any_order(self):
        tool = BuildTool(P, G)
        tool.run(["u", "s"], turned(FAILED))
        self.assertEqual(tool.history(), [(["s", "u"], {"a": "failed", "b": "blocked", "c": "blocked"})])
        self.assertEqual(list(tool.history()[0][1]), ["a", "b", "c"])

    def test_projects_without_sources_or_targets(self):
        for project in (DRY, VOID):
            tool = BuildTool(project, {})
            self.assertEqual(tool.run(project[0], {}), {})
            self.assertEqual(tool.history(), [(project[0], {})])
            self.assertEqual(tool.pending_targets(), [])
        tool = BuildTool(([], ["a"]), {"a": []})
        self.assertEqual(tool.run([], {"a": "failed"}), {"a": "idle"})


class Equality(unittest.TestCase):
    def test_tools_with_equal_projects_graphs_and_logs(self):
        one, two = BuildTool(P, G), BuildTool(copy.deepcopy(P), turned(G))
        self.assertTrue(one == two)
        self.assertFalse(one != two)
        one.run(["s"], NEW)
        self.assertFalse(one == two)
        self.assertTrue(one != two)
        two.run(["s"], turned(NEW))
        self.assertTrue(one == two)
        two.undo()
        two.run(["s"], FAILED)
        self.assertFalse(one == two)

    def test_tools_with_other_projects_or_graphs(self):
        tool = BuildTool(P, G)
        others = [
            BuildTool(P, dict(G, c=["a"])), BuildTool(P, dict(G, c=[])),
            BuildTool((["s", "t"], P[1]), {"a": ["s"], "b": ["a", "t"], "c": ["b"]}),
            BuildTool((["s", "u", "v"], P[1]), G), BuildTool((["s"], ["a"]), {"a": ["s"]}),
        ]
        for other in others:
            self.assertIs(tool == other, False)
            self.assertIs(other == tool, False)
        # The same graph, with the names of the other kind.
        one = BuildTool((["s"], ["a", "b"]), {"a": [], "b": []})
        self.assertIs(one == BuildTool((["a"], ["b", "s"]), {"b": [], "s": []}), False)

    def test_a_tool_is_not_equal_to_anything_else(self):
        tool = BuildTool(P, G)
        for value in odd_values() + [Recorder(P), BuildTool, P, G, (P, G), tool.history()]:
            self.assertIs(tool == value, False)
            self.assertIs(tool != value, True)

    def test_a_tool_without_builds_has_the_length_0(self):
        tool = BuildTool(P, G)
        self.assertEqual(len(tool), 0)
        tool.run([], NEW)
        self.assertEqual(len(tool), 1)


class Duplicates(unittest.TestCase):
    def test_a_duplicate_goes_on_in_another_way(self):
        tool = BuildTool(P, G)
        tool.run(["s"], FAILED)
        tool.run([], NEW)
        other = tool.duplicate()
        self.assertIs(other.__class__, BuildTool)
        self.assertEqual(other, tool)
        self.assertEqual(other.history(), tool.history())
        before = state_of(tool)
        other.undo()
        other.run(["u"], FAILED)
        other.run(["u"], NEW)
        self.assertEqual(state_of(tool), before)
        self.assertNotEqual(other, tool)
        after = state_of(other)
        tool.undo()
        tool.undo()
        self.assertEqual(state_of(other), after)
        self.assertEqual(len(tool), 0)
        other.undo()
        other.undo()
        other.undo()
        self.assertEqual(other, tool)
        self.assertEqual(other.duplicate().duplicate(), tool)


class ArgumentsAndResults(unittest.TestCase):
    def test_arguments_that_change_later_have_no_effect(self):
        project, graph = copy.deepcopy(P), copy.deepcopy(G)
        changed, results = ["u", "s"], dict(FAILED)
        tool = BuildTool(project, graph)
        tool.run(changed, results)
        self.assertEqual([project, graph, changed, results], [P, G, ["u", "s"], FAILED])
        before = state_of(tool)
        for value in (project, graph, changed, results):
            spoil(value)
        self.assertEqual(state_of(tool), before)
        self.assertEqual(tool.run([], NEW), NEW)
        self.assertEqual(tool.duplicate().run(["u"], NEW), {"a": "idle", "b": "new", "c": "new"})

    def test_results_that_change_later_have_no_effect(self):
        tool = BuildTool(P, G)
        statuses = tool.run(["s"], FAILED)
        other = tool.duplicate()
        before = state_of(tool)
        spoil(statuses)
        for _ in range(2):
            spoil(tool.history())
            spoil(tool.pending_targets())
            spoil(other.history())
        self.assertEqual(state_of(tool), before)
        self.assertEqual(state_of(other), before)
        found = [id(x) for x in holders([tool.history(), tool.history(), other.history()])]
        self.assertEqual(len(set(found)), len(found))


class WrongArguments(unittest.TestCase):
    def test_projects_and_graphs(self):
        for value in odd_values():
            with self.assertRaises(InvalidProject):
                BuildTool(value, None)
            with self.assertRaises(InvalidGraph):
                BuildTool(P, value)
        with self.assertRaises(InvalidGraph):
            BuildTool(P, {"a": ["b"], "b": ["a"], "c": []})

    def test_changed_sources_and_results(self):
        tool = BuildTool(P, G)
        tool.run(["s"], FAILED)
        before = state_of(tool)
        for value in odd_values() + [["a"], ["s", "s"], ["t"], ("s",), {"s": 1}]:
            if not isinstance(value, list) or value:
                with self.assertRaises(InvalidNames):
                    tool.run(value, None)
            with self.assertRaises(InvalidResults):
                tool.run([], value)
        for word in ("idle", "blocked", "New", None, Wild()):
            with self.assertRaises(InvalidResults):
                tool.run(["u", "s"], dict(NEW, b=word))
        self.assertEqual(state_of(tool), before)

    def test_the_order_of_the_errors_of_run(self):
        tool = BuildTool(P, G)
        for _ in range(200):
            tool.run([], NEW)
        with self.assertRaises(InvalidNames):
            tool.run(["x"], {})
        with self.assertRaises(InvalidResults):
            tool.run([], {})
        with self.assertRaises(TooLarge):
            tool.run([], NEW)

    def test_undo_of_nothing(self):
        tool = BuildTool(P, G)
        for _ in range(2):
            with self.assertRaises(NothingToUndo) as caught:
                tool.undo()
            self.assertEqual(vars(caught.exception), {})
        tool.run([], NEW)
        tool.undo()
        with self.assertRaises(NothingToUndo):
            tool.undo()
        self.assertEqual(tool, BuildTool(P, G))

    def test_arguments_may_be_given_by_their_names(self):
        tool = BuildTool(project=P, graph=G)
        self.assertEqual(tool.run(changed=["s"], results=NEW), NEW)


if __name__ == "__main__":
    unittest.main()
