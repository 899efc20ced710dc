"""Builds of a log that no graph fits together: where they begin, cores and culprits.

The pending targets are always those of the whole log, so its evidence serves for any of its builds:
only the places of these builds are looked at.
"""

from whyreran.columns import first_index, first_place
from whyreran.evidence import read_evidence
from whyreran.forms import is_integer_up_to


def first_conflict(project, log):
    """Return the least number of first builds that are not compatible, or None."""
    evidence = read_evidence(project, log)
    if not _blamed_builds(evidence, list(range(len(log)))):
        return None
    low = 1
    high = len(log)
    while low < high:
        middle = (low + high) // 2
        if _blamed_builds(evidence, list(range(middle))):
            high = middle
        else:
            low = middle + 1
    return low


def conflict_core(project, log):
    """Return builds that are not compatible, but are so without any one of them, or None."""
    core = _core_of(read_evidence(project, log))
    return core if core else None


def is_core(project, log, value):
    """Tell whether a value is a core of the log."""
    evidence = read_evidence(project, log)
    if not isinstance(value, list) or not value:
        return False
    if not all([is_integer_up_to(index, evidence.length - 1) for index in value]):
        return False
    # Of a core, no builds but all of them are to blame.
    if value != sorted(set(value)) or _blamed_builds(evidence, value) != value:
        return False
    return not any([_blamed_without(evidence, value, index) for index in value])


def culprits(project, log):
    """Return the builds without which all others are compatible."""
    evidence = read_evidence(project, log)
    indexes = list(range(len(log)))
    core = _core_of(evidence)
    if not core:
        return indexes
    return [index for index in core if not _blamed_without(evidence, indexes, index)]


def _core_of(evidence):
    """Return a core, or the empty list if the log is explained."""
    core = _blamed_builds(evidence, list(range(evidence.length)))
    for index in list(core):
        # A build that had to stay has to stay beside fewer builds, too.
        if index in core:
            core = _blamed_without(evidence, core, index) or core
    return core


def _blamed_without(evidence, indexes, left_out):
    return _blamed_builds(evidence, [index for index in indexes if index != left_out])


def _blamed_builds(evidence, indexes):
    """Return some of these builds that are not compatible, or none of them if all are compatible."""
    places = sum([3 << 2 * index for index in indexes])
    for target in evidence.targets:
        lapse = evidence.lapses[target] & places
        if lapse:
            return [first_index(lapse)]
    unmet = _unmet_needs(evidence, places)
    blamed = {}
    for target in unmet:
        place = first_place(unmet[target])
        blamed[place // 2] = True
        # A name that is at hand does not meet the need because some build excludes it.
        for name in evidence.names:
            if name not in unmet and evidence.signals[name] >> place & 1:
                excluding = evidence.signals[name] & evidence.bars[target] & places
                blamed[first_index(excluding)] = True
    return sorted(blamed)


def _unmet_needs(evidence, places):
    """Return a dict from each target outside of the closure to the places of its unmet needs."""
    unmet = {target: evidence.wants[target] & places for target in evidence.targets}
    bars = {target: evidence.bars[target] & places for target in evidence.targets}
    at_hand = [*evidence.sources, *[target for target in unmet if not unmet[target]]]
    while at_hand:
        name = at_hand.pop()
        unmet.pop(name, None)
        signal = evidence.signals[name]
        for target in list(unmet):
            if unmet[target] and not signal & bars[target]:
                unmet[target] &= ~signal
                if not unmet[target]:
                    at_hand.append(target)
    return unmet
