"""The next build after a log: what must or may run in it, and which builds can come next."""

from whyreran.builds import pending_at
from whyreran.checks import check_build, check_selection, check_target
from whyreran.closures import (
    certain_targets_below,
    check_explained,
    closure,
    graph_that_avoids,
    obstruction_in,
    possible_names,
)
from whyreran.evidence import Evidence, read_evidence
from whyreran.forms import STATUSES


def must_run(project, log, target, changed):
    """Tell whether the target runs in every explaining graph if exactly these names are changed."""
    evidence = _evidence_of_changes(project, log, target, changed)
    if target in pending_at(log, len(log)):
        return True
    # It can be spared only if the other possible names meet all its needs.
    others = [name for name in possible_names(evidence, target) if name not in changed]
    return evidence.lack(target, others) > 0


def may_run(project, log, target, changed):
    """Tell whether the target runs in some explaining graph if exactly these names are changed."""
    evidence = _evidence_of_changes(project, log, target, changed)
    if target in pending_at(log, len(log)):
        return True
    return any([name in changed for name in possible_names(evidence, target)])


def _evidence_of_changes(project, log, target, changed):
    evidence = read_evidence(project, log)
    check_target(project, target)
    check_selection(changed, [name for name in evidence.names if name != target])
    check_explained(evidence)
    return evidence


def least_reruns(project, log, changed):
    """Return the targets that run in every explaining graph if these sources are changed."""
    evidence = _evidence_of_sources(project, log, changed)
    spared = closure(evidence, _causes(log, changed))
    return [target for target in evidence.targets if target not in spared]


def least_rerun_graph(project, log, changed):
    """Return a graph that explains the log and in which only those targets run."""
    evidence = _evidence_of_sources(project, log, changed)
    return graph_that_avoids(evidence, _causes(log, changed))


def _evidence_of_sources(project, log, changed):
    evidence = read_evidence(project, log)
    check_selection(changed, evidence.sources)
    check_explained(evidence)
    return evidence


def _causes(log, changed):
    """Return the names from which the runs of the next build start."""
    return [*changed, *pending_at(log, len(log))]


def certain_blocked(project, log, target):
    """Return the targets that the failing target blocks in every explaining graph."""
    evidence = read_evidence(project, log)
    check_target(project, target)
    check_explained(evidence)
    if target in closure(evidence, evidence.sources):
        return []
    return certain_targets_below(evidence, target)


def fits_next(project, log, build):
    """Tell whether some graph explains the log with this build behind it."""
    evidence = read_evidence(project, log)
    check_build(project, build)
    check_explained(evidence)
    return _can_follow(project, log, build)


def _can_follow(project, log, build):
    return obstruction_in(Evidence(project, [*log, build])) is None


def fitting_statuses(project, log, build, target):
    """Return the statuses of the target with which the build can follow the log."""
    evidence = read_evidence(project, log)
    check_build(project, build)
    check_target(project, target)
    check_explained(evidence)
    changed, statuses = build
    return [
        status for status in STATUSES
        if _can_follow(project, log, (changed, {**statuses, target: status}))
    ]
