"""Point 2: arguments that stay as they are, new results, and order."""

import copy
import unittest

from tests.calls import CALLS as RIGHT_CALLS
from tests.support import G, L, P, all_results, holders, shown, spoil, turned
from whyreran.avoiding import (
    avoiding_graph,
    certain_above,
    certain_below,
    is_stuck,
    stuck_choices,
)
from whyreran.builds import (
    cause_of,
    explains,
    first_mismatch,
    pending_in,
    run_build,
    run_builds,
)
from whyreran.conflicts import conflict_core, culprits, first_conflict, is_core
from whyreran.counting import (
    count_explanations,
    count_with,
    explanation_number,
    nth_explanation,
)
from whyreran.deciding import (
    certain_dependencies,
    graph_with,
    graph_without,
    possible_dependencies,
    standing_of,
)
from whyreran.equivalence import (
    count_same,
    greatest_form,
    have_same_logs,
    is_superfluous,
    least_form,
    live_targets,
    separating_build,
    uncovered_path,
)
from whyreran.explaining import explanation, find_obstruction, is_explained, lean_explanation
from whyreran.facts import closure_without, exclusion, needs_of, permitted_names
from whyreran.judging import is_lean, is_obstruction
from whyreran.next_builds import (
    certain_blocked,
    fits_next,
    fitting_statuses,
    least_rerun_graph,
    least_reruns,
    may_run,
    must_run,
)
from whyreran.projects import (
    cycle_in,
    is_build,
    is_graph,
    is_log,
    is_name,
    is_project,
    names_above,
    names_of,
    target_order,
    targets_below,
)
from whyreran.settling import is_settled, settling_log, unsettled_pair
from whyreran.texts import format_build, format_graph, format_log, parse_graph, parse_log

R = {"a": "new", "b": "failed", "c": "same"}
PLAN = (["u", "s"], R)
CIRCLE = {"a": ["c", "s"], "b": ["a"], "c": ["b"]}
NO_GRAPH = [(["s"], {"a": "new", "b": "new", "c": "new"}),
            (["s"], {"a": "idle", "b": "same", "c": "idle"})]
LAPSE = [(["s"], {"a": "new", "b": "new", "c": "failed"}),
         ([], {"a": "idle", "b": "same", "c": "idle"})]
FULL = {"a": ["s", "u"], "b": ["a", "s"], "c": ["a", "b", "s"]}
DEAD = {"a": ["s"], "b": [], "c": ["a", "b"]}
CALLS = [(function, args) for function, args, _ in RIGHT_CALLS] + [
    (is_name, ("a",)), (is_project, (P,)), (is_graph, (P, CIRCLE)), (cycle_in, (P, CIRCLE)),
    (run_build, (P, G, ["c", "a"], ["u", "s"], R)), (run_builds, (P, G, [PLAN, PLAN, ([], R)])),
    (pending_in, (P, L, 3)), (first_mismatch, (P, dict(G, c=["s"]), L)),
    (cause_of, (P, G, L, 0, "c")), (cause_of, (P, G, L, 1, "c")), (cause_of, (P, G, L, 2, "c")),
    (exclusion, (P, L, "a", "u")), (permitted_names, (P, L, "c")), (needs_of, (P, L, "c")),
    (closure_without, (P, L, [])), (find_obstruction, (P, NO_GRAPH)),
    (find_obstruction, (P, LAPSE)), (is_explained, (P, NO_GRAPH)),
    (is_obstruction, (P, NO_GRAPH, ("group", {"c": 0, "a": 0}))),
    (is_obstruction, (P, LAPSE, ("idle", 1, "c"))), (is_lean, (P, L, dict(G, c=["b", "s"]))),
    (graph_with, (P, L, "a", "b")), (graph_without, (P, L, "b", "a")), (graph_with, (P, [], "a", "c")),
    (graph_without, (P, [], "a", "c")), (stuck_choices, (P, L, [])), (avoiding_graph, (P, L, [])),
    (avoiding_graph, (P, [], ["b", "s"])), (is_stuck, (P, NO_GRAPH, [], {"b": 1, "a": 0})),
    (least_reruns, (P, L[:1], [])), (least_rerun_graph, (P, L[:1], [])), (must_run, (P, L, "a", [])),
    (fits_next, (P, L[:1], L[1])), (fitting_statuses, (P, [], L[0], "c")), (nth_explanation, (P, [], 77)),
    (explanation_number, (P, [], G)), (count_explanations, (P, NO_GRAPH)),
    (greatest_form, (P, FULL)), (least_form, (P, FULL)), (count_same, (P, FULL)),
    (have_same_logs, (P, G, FULL)), (separating_build, (P, G, G)), (separating_build, (P, G, FULL)),
    (separating_build, (P, FULL, G)), (separating_build, (P, G, DEAD)), (live_targets, (P, DEAD)),
    (greatest_form, (P, DEAD)), (least_form, (P, DEAD)), (is_superfluous, (P, DEAD, "c", "b")),
    (uncovered_path, (P, FULL, "a", "b")), (uncovered_path, (P, DEAD, "c", "b")),
    (settling_log, (P, FULL)), (settling_log, (P, DEAD)), (unsettled_pair, (P, [])),
    (unsettled_pair, (P, settling_log(P, G))), (is_settled, (P, settling_log(P, G))),
    (unsettled_pair, (P, settling_log(P, G)[:2])),
    (unsettled_pair, (P, [(["s", "u"], {"a": "new", "b": "idle", "c": "idle"})])),
    (first_conflict, (P, NO_GRAPH)), (conflict_core, (P, NO_GRAPH)), (culprits, (P, NO_GRAPH)),
    (is_core, (P, NO_GRAPH, [0])), (is_core, (P, NO_GRAPH, [0, 1])), (conflict_core, (P, LAPSE)),
    (format_graph, (P, FULL)), (format_build, (P, LAPSE[1])), (format_log, (P, LAPSE + NO_GRAPH)),
    (parse_graph, (P, "a:\nb: a u\nc: a b s u")), (parse_log, (P, "")),
]


class Arguments(unittest.TestCase):
    def test_arguments_are_unchanged_after_a_call(self):
        for function, args in CALLS:
            with self.subTest(function=function.__name__):
                given = copy.deepcopy(args)
                before = shown(given)
                function(*given)
                self.assertEqual(shown(given), before)

    def test_arguments_are_unchanged_after_an_error(self):
        rows = [
            (run_build, (P, G, ["c", "a"], ["u", "s"], dict(R, a="idle"))),
            (run_builds, (P, G, [PLAN, (["u", "s"], {})])),
            (pending_in, (P, L, 4)), (cause_of, (P, G, L, 3, "a")), (names_above, (P, G, "x")),
            (cause_of, (P, {"a": [], "b": [], "c": []}, L, 0, "a")),
        ]
        for function, args in rows:
            with self.subTest(function=function.__name__):
                given = copy.deepcopy(args)
                with self.assertRaises(ValueError):
                    function(*given)
                self.assertEqual(shown(given), shown(args))

    def test_changes_of_arguments_have_no_effect_on_earlier_results(self):
        for function, args in CALLS:
            with self.subTest(function=function.__name__):
                given = copy.deepcopy(args)
                result = function(*given)
                before = shown(result)
                spoil(given)
                self.assertEqual(shown(result), before)

    def test_arguments_may_be_given_by_their_names(self):
        self.assertEqual(names_above(project=P, graph=G, name="a"), ["s"])
        self.assertEqual(targets_below(project=P, graph=G, name="b"), ["c"])
        self.assertEqual(is_name(value="a"), is_project(value=P))
        self.assertEqual(is_graph(project=P, value=G), is_build(project=P, value=L[0]))
        self.assertTrue(is_log(project=P, value=L))
        self.assertIsNone(cycle_in(project=P, dependencies=G))
        self.assertEqual(names_of(project=P), names_of(P))
        self.assertEqual(target_order(project=P, graph=G), ["a", "b", "c"])
        run_build(project=P, graph=G, pending=[], changed=[], results=R)
        self.assertEqual(run_builds(project=P, graph=G, plans=[]), [])
        self.assertEqual(pending_in(project=P, log=L, index=0), [])
        self.assertTrue(explains(project=P, graph=G, log=L))
        self.assertIsNone(first_mismatch(project=P, graph=G, log=L))
        self.assertEqual(cause_of(project=P, graph=G, log=L, index=1, target="a"), ["a"])
        self.assertIsNone(exclusion(project=P, log=L, target="b", name="u"))
        self.assertEqual(permitted_names(project=P, log=[], target="a"), ["b", "c", "s", "u"])
        self.assertEqual(needs_of(project=P, log=[], target="a"), [])
        self.assertEqual(closure_without(project=P, log=[], names=["b"]), ["a", "c"])
        self.assertTrue(is_explained(project=P, log=L))
        self.assertIsNone(find_obstruction(project=P, log=L))
        self.assertEqual(list(explanation(project=P, log=L)), ["a", "b", "c"])
        self.assertEqual(lean_explanation(project=P, log=[]), {"a": [], "b": [], "c": []})
        self.assertFalse(is_obstruction(project=P, log=L, value=None))
        self.assertTrue(is_lean(project=P, log=[], graph={"a": [], "b": [], "c": []}))

    def test_arguments_of_the_later_parts_may_be_given_by_their_names(self):
        first = {"project": P, "log": L}
        pair = dict(first, target="b", name="u")
        self.assertEqual(standing_of(**pair), "certain")
        self.assertIn("u", graph_with(**pair)["b"])
        self.assertIsNone(graph_without(**pair))
        self.assertEqual(count_with(**pair), count_explanations(**first))
        self.assertEqual(certain_dependencies(**first, target="b"), ["u"])
        self.assertEqual(possible_dependencies(**first, target="b"), ["a", "c", "s", "u"])
        self.assertEqual(certain_above(**first, target="a"), ["s"])
        self.assertEqual(certain_below(**first, name="a"), ["b", "c"])
        self.assertEqual(list(avoiding_graph(**first, names=["u"])), ["a", "b", "c"])
        self.assertEqual(stuck_choices(**first, names=["s"]), {"a": 0, "b": 0, "c": 0})
        self.assertTrue(is_stuck(**first, names=["s"], value={"a": 0}))
        self.assertTrue(must_run(**first, target="b", changed=["u"]))
        self.assertTrue(may_run(**first, target="b", changed=["u"]))
        self.assertEqual(least_reruns(**first, changed=[]), [])
        self.assertEqual(list(least_rerun_graph(**first, changed=[])), ["a", "b", "c"])
        self.assertEqual(certain_blocked(**first, target="a"), ["b", "c"])
        self.assertTrue(fits_next(**first, build=L[2]))
        self.assertIn("new", fitting_statuses(**first, build=L[2], target="b"))
        graph = nth_explanation(**first, number=0)
        self.assertEqual(explanation_number(**first, graph=graph), 0)

    def test_arguments_of_graphs_with_the_same_logs_may_be_given_by_their_names(self):
        first = {"project": P, "graph": G}
        self.assertEqual(live_targets(**first), ["a", "b", "c"])
        self.assertEqual(greatest_form(**first), least_form(**first))
        self.assertFalse(have_same_logs(**first, other=FULL))
        self.assertFalse(is_superfluous(**first, target="b", name="a"))
        self.assertEqual(uncovered_path(**first, target="c", name="a"), ["s", "a"])
        self.assertEqual(separating_build(**first, other=G), None)
        self.assertEqual(count_same(**first), 1)
        log = settling_log(**first)
        self.assertTrue(is_settled(project=P, log=log))
        self.assertIsNone(unsettled_pair(project=P, log=log))
        self.assertIsNone(first_conflict(project=P, log=log))
        self.assertIsNone(conflict_core(project=P, log=log))
        self.assertFalse(is_core(project=P, log=log, value=[0]))
        self.assertEqual(culprits(project=P, log=[]), [])


class Results(unittest.TestCase):
    def test_a_changed_result_has_no_effect_on_later_results(self):
        for function, args in CALLS:
            with self.subTest(function=function.__name__):
                given = copy.deepcopy(args)
                first = function(*given)
                expected = shown(first)
                spoil(first)
                self.assertEqual(shown(given), shown(args))
                self.assertEqual(shown(function(*given)), expected)

    def test_no_two_lists_or_dicts_are_the_same_object(self):
        for function, args in CALLS:
            with self.subTest(function=function.__name__):
                results = [function(*args), function(*args)]
                found = [id(holder) for holder in holders(results) + holders(list(args))]
                ours = found[:len(holders(results))]
                self.assertEqual(len(set(ours)), len(ours))
                self.assertFalse(set(ours) & set(found[len(ours):]))

    def test_the_order_in_which_a_dict_was_filled_does_not_matter(self):
        for function, args in CALLS:
            with self.subTest(function=function.__name__):
                self.assertEqual(shown(function(*turned(args))), shown(function(*args)))

    def test_returned_dicts_have_their_keys_in_ascending_order(self):
        graph = {"c": ["u"], "b": ["c"], "a": ["b"]}
        for results in all_results(P):
            statuses = run_build(P, graph, ["b"], ["u"], turned(results))
            self.assertEqual(list(statuses), ["a", "b", "c"])
            for build in run_builds(P, graph, [(["u"], turned(results))] * 2):
                self.assertEqual(list(build[1]), ["a", "b", "c"])

    def test_returned_lists_of_names_are_in_ascending_order(self):
        graph = {"a": ["c"], "b": ["a", "u"], "c": ["s"]}
        log = turned([([], {"a": "failed", "b": "blocked", "c": "failed"})])
        for names in (names_of(P), names_above(P, graph, "b"), targets_below(P, graph, "s"),
                      pending_in(P, log, 1), permitted_names(P, [], "b"),
                      explanation(P, [])["c"], lean_explanation(P, L)["b"],
                      possible_dependencies(P, L, "b"), certain_dependencies(P, L, "b"),
                      certain_above(P, L, "c"), certain_below(P, L, "s"),
                      least_reruns(P, L, ["u", "s"]), nth_explanation(P, [], 900)["a"]):
            self.assertEqual(names, sorted(names))

    def test_results_are_of_the_plain_kinds(self):
        self.assertIs(is_project(P), True)
        self.assertIs(explains(P, G, L), True)
        self.assertIs(explains(P, dict(G, c=[]), L), False)
        self.assertIs(first_mismatch(P, dict(G, c=[]), L).__class__, tuple)
        self.assertEqual([build.__class__ for build in run_builds(P, G, [PLAN])], [tuple])

    def test_a_result_may_be_passed_to_any_function_that_accepts_its_kind(self):
        statuses = run_build(P, G, targets_below(P, G, "s"), names_above(P, G, "a"), R)
        log = run_builds(P, G, [PLAN, PLAN])
        self.assertTrue(is_build(P, (names_above(P, G, "a"), statuses)))
        self.assertTrue(is_log(P, log))
        self.assertIsNone(first_mismatch(P, G, log))
        self.assertEqual(run_build(P, G, pending_in(P, log, 1), [], R), run_builds(
            P, G, [PLAN, ([], R)])[1][1])


if __name__ == "__main__":
    unittest.main()
