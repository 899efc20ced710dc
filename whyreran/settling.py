"""Settled logs: those that leave no doubt about the logs of the graph behind them."""

from whyreran.checks import check_graph, check_project
from whyreran.closures import (
    check_explained,
    closure,
    graph_in_order,
    graph_that_avoids,
    graph_with_all_possible,
    possible_names,
)
from whyreran.errors import TooLarge
from whyreran.evidence import read_evidence
from whyreran.forms import graph_links
from whyreran.shapes import (
    graph_of,
    greatest_masks,
    least_masks,
    live_names,
    live_targets_of,
    names_above,
    names_in,
    path_around,
    sources_of,
)
from whyreran.trials import failing_build, path_build, running_build, separation_of

MOST_TARGETS = 16


def is_settled(project, log):
    """Tell whether all graphs that explain the log have the same logs."""
    evidence = read_evidence(project, log)
    check_explained(evidence)
    return _differing_pair(evidence) is None


def unsettled_pair(project, log):
    """Return two graphs that explain the log, and a build that only the first one explains, or None."""
    evidence = read_evidence(project, log)
    check_explained(evidence)
    pair = _differing_pair(evidence)
    if pair is None:
        return None
    graph, other = pair
    build, holder = separation_of(graph_links(project, graph), graph_links(project, other))
    return (graph, other, build) if holder == 1 else (other, graph, build)


def _differing_pair(evidence):
    """Return two graphs that explain the log and have different logs, or None."""
    # In some graph all targets that are dead in any graph are dead.
    dead = closure(evidence, evidence.sources)
    possible = {target: possible_names(evidence, target) for target in evidence.targets}
    for target in dead:
        if any([name not in dead for name in possible[target]]):
            graph = graph_with_all_possible(evidence, target)
            return (graph, graph_that_avoids(evidence, evidence.sources))
    live = {
        target: [name for name in possible[target] if name not in dead]
        for target in evidence.targets if target not in dead
    }
    return _pair_with_more(evidence, live) or _pair_with_less(evidence, live)


def _pair_with_more(evidence, live):
    """Return such a pair if a live target can have a dependency outside of a greatest form, or None.

    The live targets are the same in all graphs now, and stand with all their possible live names.
    """
    graph = graph_in_order(evidence, closure(evidence, []))
    links = graph_links((evidence.sources, evidence.targets), graph)
    greatest = graph_of(links, greatest_masks(links))
    for target in live:
        if any([name not in greatest[target] for name in live[target]]):
            return (graph, graph_with_all_possible(evidence, target))
    return None


def _pair_with_less(evidence, live):
    """Return such a pair if a live target can do without a dependency of the least form, or None.

    All possible live names together lie in one greatest form now, so they make up one graph.
    """
    graph = {target: live.get(target, []) for target in evidence.targets}
    links = graph_links((evidence.sources, evidence.targets), graph)
    least = graph_of(links, least_masks(links))
    for target in live:
        for name in least[target]:
            others = [other for other in live[target] if other != name]
            if not evidence.lack(target, others):
                fewer = {other: list(graph[other]) for other in graph}
                fewer[target] = others
                return (graph, fewer)
    return None


def settling_log(project, graph):
    """Return a log that the graph explains, and that no graph with other logs explains."""
    check_project(project)
    links = check_graph(project, graph)
    if len(project[1]) > MOST_TARGETS:
        raise TooLarge(MOST_TARGETS)
    # Each target above another one takes at most one path, so 16 targets take at most 161 builds.
    return [
        running_build(links),
        *[path_build(links, path) for path in _telling_paths(links)],
        *[failing_build(links, target) for target in live_targets_of(links)],
    ]


def _telling_paths(links):
    """Return paths for all names of which changes alone decide whether a target depends on them.

    A target that is idle in the build of such a path does not depend on its end, and a target that
    runs there must depend on it, as the names before the end cannot be dependencies of the target.
    """
    above = names_above(links)
    greatest = greatest_masks(links)
    live = live_names(links)
    paths = {(source,): True for source in sources_of(links)}
    for target in live_targets_of(links):
        for name in names_in(links, above[target] & live):
            path = path_around(links, name, greatest[target])
            if path is not None:
                paths[tuple(path)] = True
    return [list(path) for path in paths]
