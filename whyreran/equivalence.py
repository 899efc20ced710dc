"""Graphs with the same logs: their greatest and least form, and builds that tell others apart."""

from whyreran.checks import check_graph, check_other_name, check_project, check_target
from whyreran.errors import InvalidName
from whyreran.forms import is_one_of
from whyreran.shapes import (
    graph_of,
    greatest_masks,
    is_superfluous_in,
    least_masks,
    live_targets_of,
    names_in,
    path_around,
)
from whyreran.trials import separation_of


def live_targets(project, graph):
    """Return the targets that a source is above."""
    check_project(project)
    return live_targets_of(check_graph(project, graph))


def greatest_form(project, graph):
    """Return the graph with the same logs and with all dependencies that it can have."""
    check_project(project)
    links = check_graph(project, graph)
    return graph_of(links, greatest_masks(links))


def least_form(project, graph):
    """Return the graph with the same logs and with those dependencies only that it must have."""
    check_project(project)
    links = check_graph(project, graph)
    return graph_of(links, least_masks(links))


def have_same_logs(project, graph, other):
    """Tell whether two graphs explain the same logs."""
    check_project(project)
    links = check_graph(project, graph)
    others = check_graph(project, other)
    return greatest_masks(links) == greatest_masks(others)


def is_superfluous(project, graph, target, name):
    """Tell whether the graph has the same logs without this dependency of the target."""
    check_project(project)
    links = check_graph(project, graph)
    check_target(project, target)
    if not is_one_of(name, graph[target]):
        raise InvalidName("this is not a dependency of the target")
    return is_superfluous_in(links, target, name)


def uncovered_path(project, graph, target, name):
    """Return a path from a source to the name with no dependency of the target before its end."""
    check_project(project)
    links = check_graph(project, graph)
    check_target(project, target)
    check_other_name(project, target, name)
    return path_around(links, name, links.masks[target])


def separating_build(project, graph, other):
    """Return a build that only one of two graphs explains, with 1 or 2 for this graph, or None."""
    check_project(project)
    links = check_graph(project, graph)
    others = check_graph(project, other)
    return separation_of(links, others)


def count_same(project, graph):
    """Return the number of graphs with the same logs, without the dependencies that do not count."""
    check_project(project)
    links = check_graph(project, graph)
    greatest = greatest_masks(links)
    least = least_masks(links)
    free = [len(names_in(links, greatest[target] & ~least[target])) for target in links.targets]
    return 1 << sum(free)
