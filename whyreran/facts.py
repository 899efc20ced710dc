"""Facts in a log: what is excluded and permitted, what is needed, and closures."""

from whyreran.checks import check_other_name, check_selection, check_target
from whyreran.closures import closure
from whyreran.columns import first_place
from whyreran.evidence import read_evidence

# What the first and the second place of a build stand for in a signal.
PLACE_WORDS = ("changed", "broken")


def exclusion(project, log, target, name):
    """Return the index of the first build that excludes the name for the target, and how, or None."""
    evidence = read_evidence(project, log)
    check_target(project, target)
    check_other_name(project, target, name)
    places = evidence.signals[name] & evidence.bars[target]
    if not places:
        return None
    place = first_place(places)
    return (place // 2, PLACE_WORDS[place % 2])


def permitted_names(project, log, target):
    """Return the names that are permitted for the target."""
    evidence = read_evidence(project, log)
    check_target(project, target)
    return list(evidence.helps[target])


def needs_of(project, log, target):
    """Return the indexes of the builds in which the target has a need, with the names of the need."""
    evidence = read_evidence(project, log)
    check_target(project, target)
    needs = [(index, evidence.need_at(target, index)) for index in range(len(log))]
    return [(index, names) for index, names in needs if names is not None]


def closure_without(project, log, names):
    """Return the targets of the closure without the names, in the order in which they join it."""
    evidence = read_evidence(project, log)
    check_selection(names, evidence.names)
    return closure(evidence, names)
