"""Counting the graphs that explain a log, and numbering them.

A set of names is an integer here, with one bit for each name; the targets have the lowest bits.
Choices are a dict from each target to the sets among which a graph may choose its dependencies.
"""

from whyreran.checks import check_graph, check_number, check_other_name, check_target
from whyreran.errors import InvalidGraph, TooLarge
from whyreran.evidence import read_evidence

MOST_TARGETS = 5
MOST_NAMES = 10


def count_explanations(project, log):
    """Return the number of graphs that explain the log."""
    evidence = read_evidence(project, log)
    _check_size(project)
    return _count(_all_choices(evidence))


def count_with(project, log, target, name):
    """Return the number of graphs that explain the log and have this dependency."""
    evidence = read_evidence(project, log)
    check_target(project, target)
    check_other_name(project, target, name)
    _check_size(project)
    return _count(_decided(_all_choices(evidence), target, _bits_of(evidence)[name], True))


def nth_explanation(project, log, number):
    """Return the graph with this number among those that explain the log."""
    evidence = read_evidence(project, log)
    _check_size(project)
    choices = _all_choices(evidence)
    check_number(number, _count(choices) - 1)
    bits = _bits_of(evidence)
    graph = {target: [] for target in evidence.targets}
    left = number
    for target, name in _pairs(evidence):
        without = _decided(choices, target, bits[name], False)
        before = _count(without)
        if left < before:
            choices = without
        else:
            left -= before
            choices = _decided(choices, target, bits[name], True)
            graph[target].append(name)
    return graph


def explanation_number(project, log, graph):
    """Return the number of the graph among those that explain the log."""
    evidence = read_evidence(project, log)
    check_graph(project, graph)
    if not evidence.agrees_with(graph):
        raise InvalidGraph("this graph does not explain the log")
    _check_size(project)
    choices = _all_choices(evidence)
    bits = _bits_of(evidence)
    number = 0
    for target, name in _pairs(evidence):
        without = _decided(choices, target, bits[name], False)
        if name in graph[target]:
            number += _count(without)
            choices = _decided(choices, target, bits[name], True)
        else:
            choices = without
    return number


def _check_size(project):
    sources, targets = project
    if len(targets) > MOST_TARGETS:
        raise TooLarge(MOST_TARGETS)
    if len(sources) + len(targets) > MOST_NAMES:
        raise TooLarge(MOST_NAMES)


def _bits_of(evidence):
    names = [*evidence.targets, *evidence.sources]
    return {name: 1 << at for at, name in enumerate(names)}


def _pairs(evidence):
    """Return the pairs by which graphs are compared; no graph has another dependency."""
    return [(target, name) for target in evidence.targets for name in evidence.helps[target]]


def _all_choices(evidence):
    """Return the choices of the graphs that explain the log."""
    if any([evidence.lapses[target] for target in evidence.targets]):
        return {target: [] for target in evidence.targets}
    bits = _bits_of(evidence)
    return {target: _sets_that_help(evidence, target, bits) for target in evidence.targets}


def _sets_that_help(evidence, target, bits):
    """Return the sets of permitted names that contain a name of each need of the target."""
    helps = evidence.helps[target]
    # Each set stands beside the places of the needs that it does not meet.
    rows = [(0, evidence.wants[target])]
    for name in helps:
        more = [(chosen | bits[name], missing & ~helps[name]) for chosen, missing in rows]
        rows = [*rows, *more]
    return [chosen for chosen, missing in rows if not missing]


def _decided(choices, target, bit, wanted):
    """Return the choices that are left if the target is to have, or not to have, a dependency."""
    kept = [chosen for chosen in choices[target] if ((chosen & bit) != 0) == wanted]
    return {**choices, target: kept}


def _count(choices):
    """Return the number of graphs without a cycle that choose one of the sets for each target."""
    size = 1 << len(choices)
    ways = [_ways_within(choices[target], size) for target in choices]
    # The number of graphs of each set of targets that depend on no others, as point 45 adds it up.
    numbers = [1]
    for whole in range(1, size):
        total = 0
        part = whole
        while part:
            total += _signed_term(ways, numbers, whole, part)
            part = (part - 1) & whole
        numbers.append(total)
    return numbers[-1]


def _signed_term(ways, numbers, whole, part):
    rest = whole - part
    term = -numbers[rest]
    for at, row in enumerate(ways):
        if part >> at & 1:
            term *= -row[rest]
    return term


def _ways_within(chosen_sets, size):
    """Return, for each set of targets, how many sets have no targets but those."""
    ways = [0] * size
    for chosen in chosen_sets:
        ways[chosen & (size - 1)] += 1
    # Adding up over one target after another reaches each subset once.
    bit = 1
    while bit < size:
        for within in range(size):
            if within & bit:
                ways[within] += ways[within - bit]
        bit *= 2
    return ways
