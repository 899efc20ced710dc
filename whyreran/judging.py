"""Judging what others found: obstructions and lean graphs."""

from whyreran.checks import check_graph
from whyreran.closures import is_stuck_group
from whyreran.evidence import read_evidence
from whyreran.forms import is_integer_up_to, is_one_of


def is_obstruction(project, log, value):
    """Tell whether a value is an obstruction of the log."""
    evidence = read_evidence(project, log)
    if not isinstance(value, tuple) or len(value) not in (2, 3):
        return False
    if len(value) == 3:
        word, index, target = value
        return is_one_of(word, ["idle"]) and _is_lapse(evidence, index, target)
    word, choices = value
    if not is_one_of(word, ["group"]) or not is_stuck_group(evidence, [], choices):
        return False
    return len(choices) > 0


def _is_lapse(evidence, index, target):
    """Tell whether the target is pending and idle in the build."""
    if not is_integer_up_to(index, evidence.length - 1) or not is_one_of(target, evidence.targets):
        return False
    return evidence.lapses[target] >> 2 * index & 1 == 1


def is_lean(project, log, graph):
    """Tell whether a graph explains the log and each of its dependencies is needed for that."""
    evidence = read_evidence(project, log)
    check_graph(project, graph)
    if not evidence.agrees_with(graph):
        return False
    return all([_are_all_needed(evidence, target, graph[target]) for target in graph])


def _are_all_needed(evidence, target, names):
    for name in names:
        others = [other for other in names if other != name]
        if not evidence.lack(target, others):
            return False
    return True
