"""Builds: what the rule does with a graph, and whether a log agrees with it."""

from whyreran.checks import (
    check_graph,
    check_log,
    check_number,
    check_plans,
    check_project,
    check_results,
    check_selection,
    check_target,
)
from whyreran.columns import Columns, first_index
from whyreran.errors import InvalidGraph
from whyreran.forms import BROKEN

# What the two places of a build in a column of words mean: none of them, the first, the second.
RULE_WORDS = ("idle", "runs", "blocked")


def run_build(project, graph, pending, changed, results):
    """Return the status of every target in one build."""
    check_project(project)
    links = check_graph(project, graph)
    sources, targets = project
    check_selection(pending, targets)
    check_selection(changed, sources)
    check_results(project, results)
    return ruled_statuses(links, pending, changed, results)


def ruled_statuses(links, pending, changed, results):
    """Return what run_build returns. The caller has checked the arguments."""
    found = {}
    changed_bits = sum([links.bits[name] for name in changed])
    broken_bits = 0
    for target in links.order:
        mask = links.masks[target]
        if mask & broken_bits:
            found[target] = "blocked"
        elif mask & changed_bits or target in pending:
            found[target] = results[target]
        else:
            found[target] = "idle"
        if found[target] == "new":
            changed_bits += links.bits[target]
        elif found[target] in BROKEN:
            broken_bits += links.bits[target]
    return {target: found[target] for target in links.targets}


def run_builds(project, graph, plans):
    """Return the log of builds that follow one another."""
    check_project(project)
    links = check_graph(project, graph)
    check_plans(project, plans)
    log = []
    for changed, results in plans:
        pending = pending_at(log, len(log))
        log.append((sorted(changed), ruled_statuses(links, pending, changed, results)))
    return log


def pending_in(project, log, index):
    """Return the targets that are pending in the build at an index, or in the next build."""
    check_project(project)
    check_log(project, log)
    check_number(index, len(log))
    return pending_at(log, index)


def pending_at(log, index):
    """Return what pending_in returns. The caller has checked the arguments."""
    if index == 0:
        return []
    statuses = log[index - 1][1]
    return [target for target in sorted(statuses) if statuses[target] in BROKEN]


def copied_build(build):
    """Return a build with new lists and dicts, and with the targets in ascending order."""
    changed, statuses = build
    return (list(changed), {target: statuses[target] for target in sorted(statuses)})


def explains(project, graph, log):
    """Tell whether the graph explains the log."""
    return first_mismatch(project, graph, log) is None


def first_mismatch(project, graph, log):
    """Return the index, the target and the word of the rule for the first mismatch, or None."""
    check_project(project)
    check_graph(project, graph)
    check_log(project, log)
    return _find_mismatch(project, graph, log)


def _find_mismatch(project, graph, log):
    columns = Columns(project, log)
    found = []
    for target in project[1]:
        given = _ruled_column(columns, graph[target], target)
        wrong = given ^ columns.words[target]
        if wrong:
            index = first_index(wrong)
            found.append((index, target, RULE_WORDS[given >> 2 * index & 3]))
    return min(found, default=None)


def _ruled_column(columns, dependencies, target):
    """Return what the rule gives a target in all builds, in the form of a column of words."""
    seconds = columns.firsts << 1
    reached = 0
    for name in dependencies:
        reached |= columns.signals[name]
    blocked = reached & seconds
    runs = (reached | columns.pending[target]) & columns.firsts & ~(blocked >> 1)
    return blocked | runs


def cause_of(project, graph, log, index, target):
    """Return a path that tells why a target has its status in a build, or None if it is idle."""
    check_project(project)
    check_graph(project, graph)
    check_log(project, log)
    check_target(project, target)
    if _find_mismatch(project, graph, log) is not None:
        raise InvalidGraph("this graph does not explain the log")
    check_number(index, len(log) - 1)
    changed, statuses = log[index]
    if statuses[target] == "idle":
        return None
    if statuses[target] == "blocked":
        return _blocking_path(graph, statuses, target)
    return _running_path(graph, pending_at(log, index), changed, statuses, target)


def _blocking_path(graph, statuses, target):
    path = [target]
    while statuses[path[0]] == "blocked":
        broken = [name for name in graph[path[0]] if statuses.get(name) in BROKEN]
        path.insert(0, broken[0])
    return path


def _running_path(graph, pending, changed, statuses, target):
    path = [target]
    while path[0] in graph and path[0] not in pending:
        causes = [name for name in graph[path[0]] if name in changed or statuses.get(name) == "new"]
        path.insert(0, causes[0])
    return path
