"""Single dependencies: which ones are certain, possible or impossible, with graphs that show it."""

from whyreran.checks import check_other_name, check_target
from whyreran.closures import check_explained, graph_with_all_possible, possible_names
from whyreran.evidence import read_evidence


def standing_of(project, log, target, name):
    """Return "certain", "open" or "impossible": what the log says of a name and a target."""
    evidence = _evidence_of_pair(project, log, target, name)
    possible = possible_names(evidence, target)
    if name not in possible:
        return "impossible"
    return "certain" if _is_certain(evidence, target, possible, name) else "open"


def _evidence_of_pair(project, log, target, name):
    evidence = read_evidence(project, log)
    check_target(project, target)
    check_other_name(project, target, name)
    check_explained(evidence)
    return evidence


def _is_certain(evidence, target, possible, name):
    """Tell whether some need of the target has no possible name but this one."""
    return evidence.lack(target, [other for other in possible if other != name]) > 0


def certain_dependencies(project, log, target):
    """Return the names on which the target depends in every graph that explains the log."""
    evidence = _evidence_of_target(project, log, target)
    possible = possible_names(evidence, target)
    return [name for name in possible if _is_certain(evidence, target, possible, name)]


def possible_dependencies(project, log, target):
    """Return the names on which the target depends in some graph that explains the log."""
    return possible_names(_evidence_of_target(project, log, target), target)


def _evidence_of_target(project, log, target):
    evidence = read_evidence(project, log)
    check_target(project, target)
    check_explained(evidence)
    return evidence


def graph_with(project, log, target, name):
    """Return a graph that explains the log and has this dependency, or None."""
    evidence = _evidence_of_pair(project, log, target, name)
    graph = graph_with_all_possible(evidence, target)
    return graph if name in graph[target] else None


def graph_without(project, log, target, name):
    """Return a graph that explains the log and does not have this dependency, or None."""
    evidence = _evidence_of_pair(project, log, target, name)
    graph = graph_with_all_possible(evidence, target)
    graph[target] = [other for other in graph[target] if other != name]
    return None if evidence.lack(target, graph[target]) else graph
