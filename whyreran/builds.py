"""Builds: what the rule does with a graph, and whether a log agrees with it."""

from whyreran.checks import (
    check_graph,
    check_log,
    check_number,
    check_plans,
    check_project,
    check_results,
    check_selection,
    check_target,
)
from whyreran.errors import InvalidGraph
from whyreran.forms import BROKEN, RESULTS
from whyreran.graphs import processing_order

RUNS = "runs"


def run_build(project, graph, pending, changed, results):
    """Return the status of every target in one build."""
    check_project(project)
    check_graph(project, graph)
    sources, targets = project
    check_selection(pending, targets)
    check_selection(changed, sources)
    check_results(project, results)
    return _statuses(processing_order(project, graph), graph, pending, changed, results)


def _statuses(order, graph, pending, changed, results):
    found = {}
    for target in order:
        word = rule_word(graph[target], target in pending, changed, found)
        found[target] = results[target] if word == RUNS else word
    return {target: found[target] for target in sorted(found)}


def rule_word(dependencies, is_pending, changed, statuses):
    """Return what the rule gives a target: "blocked", "runs" or "idle"."""
    # A source has no status, so it can only count as changed.
    reached = [statuses.get(name) for name in dependencies]
    if any([status in BROKEN for status in reached]):
        return "blocked"
    if is_pending or "new" in reached or any([name in changed for name in dependencies]):
        return RUNS
    return "idle"


def run_builds(project, graph, plans):
    """Return the log of builds that follow one another."""
    check_project(project)
    check_graph(project, graph)
    check_plans(project, plans)
    order = processing_order(project, graph)
    log = []
    for changed, results in plans:
        pending = pending_at(log, len(log))
        log.append((sorted(changed), _statuses(order, graph, pending, changed, results)))
    return log


def pending_in(project, log, index):
    """Return the targets that are pending in the build at an index, or in the next build."""
    check_project(project)
    check_log(project, log)
    check_number(index, len(log))
    return pending_at(log, index)


def pending_at(log, index):
    """Return what pending_in returns. The caller has checked the arguments."""
    if index == 0:
        return []
    statuses = log[index - 1][1]
    return [target for target in sorted(statuses) if statuses[target] in BROKEN]


def explains(project, graph, log):
    """Tell whether the graph explains the log."""
    return first_mismatch(project, graph, log) is None


def first_mismatch(project, graph, log):
    """Return the index, the target and the word of the rule for the first mismatch, or None."""
    check_project(project)
    check_graph(project, graph)
    check_log(project, log)
    return _find_mismatch(project, graph, log)


def _find_mismatch(project, graph, log):
    for index in range(len(log)):
        changed, statuses = log[index]
        pending = pending_at(log, index)
        for target in project[1]:
            word = rule_word(graph[target], target in pending, changed, statuses)
            if word != _logged_word(statuses[target]):
                return (index, target, word)
    return None


def _logged_word(status):
    # The rule does not determine the result of a run, so all results agree with it alike.
    return RUNS if status in RESULTS else status


def cause_of(project, graph, log, index, target):
    """Return a path that tells why a target has its status in a build, or None if it is idle."""
    check_project(project)
    check_graph(project, graph)
    check_log(project, log)
    check_target(project, target)
    if _find_mismatch(project, graph, log) is not None:
        raise InvalidGraph("this graph does not explain the log")
    check_number(index, len(log) - 1)
    changed, statuses = log[index]
    if statuses[target] == "idle":
        return None
    if statuses[target] == "blocked":
        return _blocking_path(graph, statuses, target)
    return _running_path(graph, pending_at(log, index), changed, statuses, target)


def _blocking_path(graph, statuses, target):
    path = [target]
    while statuses[path[0]] == "blocked":
        broken = [name for name in graph[path[0]] if statuses.get(name) in BROKEN]
        path.insert(0, broken[0])
    return path


def _running_path(graph, pending, changed, statuses, target):
    path = [target]
    while path[0] in graph and path[0] not in pending:
        causes = [name for name in graph[path[0]] if name in changed or statuses.get(name) == "new"]
        path.insert(0, causes[0])
    return path
