"""Projects and graphs: what is one, which names are above and below, cycles and order."""

from whyreran.checks import check_dependencies, check_graph, check_name, check_project
from whyreran.forms import (
    graph_links,
    has_build_form,
    has_log_form,
    has_name_form,
    has_project_form,
)


def is_name(value):
    """Tell whether a value is a name."""
    return has_name_form(value)


def is_project(value):
    """Tell whether a value is a project."""
    return has_project_form(value)


def is_graph(project, value):
    """Tell whether a value is a graph of the project."""
    check_project(project)
    return graph_links(project, value) is not None


def is_build(project, value):
    """Tell whether a value is a build of the project."""
    check_project(project)
    return has_build_form(project, value)


def is_log(project, value):
    """Tell whether a value is a log of the project."""
    check_project(project)
    return has_log_form(project, value)


def names_of(project):
    """Return all names of the project."""
    check_project(project)
    sources, targets = project
    return sorted([*sources, *targets])


def names_above(project, graph, name):
    """Return the names from which a path leads to the name."""
    check_project(project)
    links = check_graph(project, graph)
    check_name(project, name)
    return links.above(name)


def targets_below(project, graph, name):
    """Return the targets to which a path leads from the name."""
    check_project(project)
    links = check_graph(project, graph)
    check_name(project, name)
    return links.below(name)


def cycle_in(project, dependencies):
    """Return targets of which each is a dependency of the next, in a circle, or None."""
    check_project(project)
    return check_dependencies(project, dependencies).cycle()


def target_order(project, graph):
    """Return all targets, each one behind its dependencies, as early as its name allows."""
    check_project(project)
    return check_graph(project, graph).order
