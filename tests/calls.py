"""Right calls of all functions, and where which error can arise in them, for the tests."""

from tests.support import G, L, P
from whyreran.avoiding import (
    avoiding_graph,
    certain_above,
    certain_below,
    is_stuck,
    stuck_choices,
)
from whyreran.builds import (
    cause_of,
    explains,
    first_mismatch,
    pending_in,
    run_build,
    run_builds,
)
from whyreran.conflicts import conflict_core, culprits, first_conflict, is_core
from whyreran.counting import (
    count_explanations,
    count_with,
    explanation_number,
    nth_explanation,
)
from whyreran.deciding import (
    certain_dependencies,
    graph_with,
    graph_without,
    possible_dependencies,
    standing_of,
)
from whyreran.equivalence import (
    count_same,
    greatest_form,
    have_same_logs,
    is_superfluous,
    least_form,
    live_targets,
    separating_build,
    uncovered_path,
)
from whyreran.errors import (
    InvalidBuild,
    InvalidGraph,
    InvalidLog,
    InvalidName,
    InvalidNames,
    InvalidNumber,
    InvalidProject,
    InvalidResults,
    InvalidTarget,
)
from whyreran.explaining import explanation, find_obstruction, is_explained, lean_explanation
from whyreran.facts import closure_without, exclusion, needs_of, permitted_names
from whyreran.judging import is_lean, is_obstruction
from whyreran.next_builds import (
    certain_blocked,
    fits_next,
    fitting_statuses,
    least_rerun_graph,
    least_reruns,
    may_run,
    must_run,
)
from whyreran.projects import (
    cycle_in,
    is_build,
    is_graph,
    is_log,
    names_above,
    names_of,
    target_order,
    targets_below,
)
from whyreran.settling import is_settled, settling_log, unsettled_pair
from whyreran.texts import (
    format_build,
    format_graph,
    format_log,
    parse_build,
    parse_graph,
    parse_log,
)

R = {"a": "new", "b": "same", "c": "failed"}

PROJECT = (0, InvalidProject)
GRAPH = (1, InvalidGraph)
LOG = (1, InvalidLog)
TARGET = (2, InvalidTarget)
OTHER = {"a": ["s"], "b": ["a"], "c": ["b", "u"]}

# Each row: the function, right arguments, and where an error can arise, in the order of checking.
CALLS = [
    (is_graph, (P, G), [PROJECT]),
    (is_build, (P, L[0]), [PROJECT]),
    (is_log, (P, L), [PROJECT]),
    (names_of, (P,), [PROJECT]),
    (names_above, (P, G, "c"), [PROJECT, GRAPH, (2, InvalidName)]),
    (targets_below, (P, G, "s"), [PROJECT, GRAPH, (2, InvalidName)]),
    (cycle_in, (P, G), [PROJECT, GRAPH]),
    (target_order, (P, G), [PROJECT, GRAPH]),
    (run_build, (P, G, ["a"], ["s"], R), [
        PROJECT, GRAPH, (2, InvalidNames), (3, InvalidNames), (4, InvalidResults),
    ]),
    (run_builds, (P, G, [(["s"], R)]), [PROJECT, GRAPH, (2, InvalidLog)]),
    (pending_in, (P, L, 1), [PROJECT, LOG, (2, InvalidNumber)]),
    (explains, (P, G, L), [PROJECT, GRAPH, (2, InvalidLog)]),
    (first_mismatch, (P, G, L), [PROJECT, GRAPH, (2, InvalidLog)]),
    (cause_of, (P, G, L, 1, "b"), [
        PROJECT, GRAPH, (2, InvalidLog), (4, InvalidTarget), (3, InvalidNumber),
    ]),
    (exclusion, (P, L, "b", "s"), [PROJECT, LOG, TARGET, (3, InvalidName)]),
    (permitted_names, (P, L, "b"), [PROJECT, LOG, TARGET]),
    (needs_of, (P, L, "b"), [PROJECT, LOG, TARGET]),
    (closure_without, (P, L, ["u", "a"]), [PROJECT, LOG, (2, InvalidNames)]),
    (is_explained, (P, L), [PROJECT, LOG]),
    (explanation, (P, L), [PROJECT, LOG]),
    (find_obstruction, (P, L), [PROJECT, LOG]),
    (lean_explanation, (P, L), [PROJECT, LOG]),
    (is_obstruction, (P, L, ("group", {"a": 0})), [PROJECT, LOG]),
    (is_lean, (P, L, G), [PROJECT, LOG, (2, InvalidGraph)]),
    (standing_of, (P, L, "b", "s"), [PROJECT, LOG, TARGET, (3, InvalidName)]),
    (certain_dependencies, (P, L, "b"), [PROJECT, LOG, TARGET]),
    (possible_dependencies, (P, L, "b"), [PROJECT, LOG, TARGET]),
    (graph_with, (P, L, "b", "a"), [PROJECT, LOG, TARGET, (3, InvalidName)]),
    (graph_without, (P, L, "b", "s"), [PROJECT, LOG, TARGET, (3, InvalidName)]),
    (certain_above, (P, L, "b"), [PROJECT, LOG, TARGET]),
    (certain_below, (P, L, "s"), [PROJECT, LOG, (2, InvalidName)]),
    (avoiding_graph, (P, L, ["u", "a"]), [PROJECT, LOG, (2, InvalidNames)]),
    (stuck_choices, (P, L, ["s"]), [PROJECT, LOG, (2, InvalidNames)]),
    (is_stuck, (P, L, ["s"], {"a": 0}), [PROJECT, LOG, (2, InvalidNames)]),
    (must_run, (P, L, "b", ["s", "a"]), [PROJECT, LOG, TARGET, (3, InvalidNames)]),
    (may_run, (P, L, "b", ["s", "a"]), [PROJECT, LOG, TARGET, (3, InvalidNames)]),
    (least_reruns, (P, L, ["u", "s"]), [PROJECT, LOG, (2, InvalidNames)]),
    (least_rerun_graph, (P, L, ["u", "s"]), [PROJECT, LOG, (2, InvalidNames)]),
    (certain_blocked, (P, L, "a"), [PROJECT, LOG, TARGET]),
    (fits_next, (P, L, L[2]), [PROJECT, LOG, (2, InvalidBuild)]),
    (fitting_statuses, (P, L, L[2], "b"), [PROJECT, LOG, (2, InvalidBuild), (3, InvalidTarget)]),
    (count_explanations, (P, L), [PROJECT, LOG]),
    (count_with, (P, L, "b", "s"), [PROJECT, LOG, TARGET, (3, InvalidName)]),
    (nth_explanation, (P, L, 1), [PROJECT, LOG, (2, InvalidNumber)]),
    (explanation_number, (P, L, G), [PROJECT, LOG, (2, InvalidGraph)]),
    (live_targets, (P, G), [PROJECT, GRAPH]),
    (greatest_form, (P, G), [PROJECT, GRAPH]),
    (least_form, (P, G), [PROJECT, GRAPH]),
    (have_same_logs, (P, G, OTHER), [PROJECT, GRAPH, (2, InvalidGraph)]),
    (is_superfluous, (P, G, "b", "a"), [PROJECT, GRAPH, TARGET, (3, InvalidName)]),
    (uncovered_path, (P, G, "c", "a"), [PROJECT, GRAPH, TARGET, (3, InvalidName)]),
    (separating_build, (P, G, OTHER), [PROJECT, GRAPH, (2, InvalidGraph)]),
    (count_same, (P, G), [PROJECT, GRAPH]),
    (is_settled, (P, L), [PROJECT, LOG]),
    (unsettled_pair, (P, L), [PROJECT, LOG]),
    (settling_log, (P, G), [PROJECT, GRAPH]),
    (first_conflict, (P, L), [PROJECT, LOG]),
    (conflict_core, (P, L), [PROJECT, LOG]),
    (is_core, (P, L, [0]), [PROJECT, LOG]),
    (culprits, (P, L), [PROJECT, LOG]),
    (format_graph, (P, G), [PROJECT, GRAPH]),
    (format_build, (P, L[0]), [PROJECT, (1, InvalidBuild)]),
    (format_log, (P, L), [PROJECT, LOG]),
    (parse_graph, (P, format_graph(P, G)), [PROJECT]),
    (parse_build, (P, format_build(P, L[2])), [PROJECT]),
    (parse_log, (P, format_log(P, L)), [PROJECT]),
]

# The functions that raise NotExplained.
EXPLAINING = [
    explanation, lean_explanation, standing_of, certain_dependencies, possible_dependencies,
    graph_with, graph_without, certain_above, certain_below, avoiding_graph, stuck_choices,
    must_run, may_run, least_reruns, least_rerun_graph, certain_blocked, fits_next,
    fitting_statuses, is_settled, unsettled_pair,
]

# The functions that raise other errors for a log that no graph explains.
REFUSING = [nth_explanation, explanation_number]

# The functions that take names of any kind, and so also some of the lists of other values.
TAKING_ANY_NAMES = [
    closure_without, avoiding_graph, stuck_choices, is_stuck, must_run, may_run,
]


def is_right(function, error, value):
    """Tell whether one of the odd values is a right one in the place of this error after all."""
    if isinstance(value, list):
        if error in (InvalidLog, InvalidNames) and not value:
            return True
        return error is InvalidNames and function in TAKING_ANY_NAMES and is_pair_of_names(value)
    if isinstance(value, str):
        return (error is InvalidName and value in ("s", "a")) or (
            error is InvalidTarget and value == "a"
        )
    if isinstance(value, int) and not isinstance(value, bool):
        return error is InvalidNumber and value in (0, 1)
    return False


def is_pair_of_names(value):
    return all(isinstance(name, str) for name in value) and value == ["s", "a"]
