"""Explanations: whether a graph explains a log, such graphs, and what stands in their way."""

from whyreran.closures import check_explained, closure, graph_in_order, obstruction_in
from whyreran.evidence import read_evidence


def is_explained(project, log):
    """Tell whether some graph explains the log."""
    return find_obstruction(project, log) is None


def explanation(project, log):
    """Return the graph that explains the log along its closure, with all that is permitted there."""
    evidence = read_evidence(project, log)
    check_explained(evidence)
    return graph_in_order(evidence, closure(evidence, []))


def find_obstruction(project, log):
    """Return None if the log is explained, otherwise an obstruction of it."""
    return obstruction_in(read_evidence(project, log))


def lean_explanation(project, log):
    """Return a graph that explains the log and none of whose dependencies can be left out."""
    evidence = read_evidence(project, log)
    check_explained(evidence)
    graph = graph_in_order(evidence, closure(evidence, []))
    return {target: _lean_names(evidence, target, graph[target]) for target in graph}


def _lean_names(evidence, target, names):
    """Leave out one name after another, as long as every need of the target keeps a name."""
    kept = list(names)
    for name in names:
        others = [other for other in kept if other != name]
        if not evidence.lack(target, others):
            kept = others
    return kept
