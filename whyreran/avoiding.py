"""Names above a target in every graph that explains a log, and graphs that avoid other names."""

from whyreran.checks import check_name, check_selection, check_target
from whyreran.closures import (
    certain_targets_below,
    check_explained,
    closure,
    graph_that_avoids,
    is_stuck_group,
    stuck_groups,
)
from whyreran.evidence import read_evidence


def certain_above(project, log, target):
    """Return the names that are above the target in every graph that explains the log."""
    evidence = read_evidence(project, log)
    check_target(project, target)
    check_explained(evidence)
    return [
        name for name in evidence.names
        if name != target and target not in closure(evidence, [name])
    ]


def certain_below(project, log, name):
    """Return the targets that are below the name in every graph that explains the log."""
    evidence = read_evidence(project, log)
    check_name(project, name)
    check_explained(evidence)
    return certain_targets_below(evidence, name)


def avoiding_graph(project, log, names):
    """Return a graph that explains the log, with no name above what can do without the names."""
    evidence = _evidence_of_names(project, log, names)
    return graph_that_avoids(evidence, names)


def stuck_choices(project, log, names):
    """Return the targets that cannot do without the names, each with the first build to blame."""
    evidence = _evidence_of_names(project, log, names)
    return stuck_groups(evidence, names)


def _evidence_of_names(project, log, names):
    evidence = read_evidence(project, log)
    check_selection(names, evidence.names)
    check_explained(evidence)
    return evidence


def is_stuck(project, log, names, value):
    """Tell whether a value shows for each of its targets that it cannot do without the names."""
    evidence = read_evidence(project, log)
    check_selection(names, evidence.names)
    return is_stuck_group(evidence, names, value)
