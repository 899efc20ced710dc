"""Checks of arguments. Each one raises the error for its argument, or finds nothing wrong."""

from whyreran.errors import (
    InvalidBuild,
    InvalidGraph,
    InvalidLog,
    InvalidName,
    InvalidNames,
    InvalidNumber,
    InvalidProject,
    InvalidResults,
    InvalidTarget,
    NothingToUndo,
    TooLarge,
)
from whyreran.forms import (
    MOST_BUILDS,
    dependency_links,
    graph_links,
    has_build_form,
    has_log_form,
    has_plans_form,
    has_project_form,
    has_results_form,
    is_integer_up_to,
    is_one_of,
    is_selection,
)


def check_project(project):
    """Raise InvalidProject unless the value is a project."""
    if not has_project_form(project):
        raise InvalidProject("this is not a project")


def check_graph(project, graph):
    """Return the links of a graph. Raise InvalidGraph unless the value is a graph of the project."""
    links = graph_links(project, graph)
    if links is None:
        raise InvalidGraph("this is not a graph of the project")
    return links


def check_dependencies(project, dependencies):
    """Return the links. Raise InvalidGraph unless the value is like a graph, perhaps with cycles."""
    links = dependency_links(project, dependencies)
    if links is None:
        raise InvalidGraph("these are not the dependencies of every target")
    return links


def check_build(project, build):
    """Raise InvalidBuild unless the value is a build of the project."""
    if not has_build_form(project, build):
        raise InvalidBuild("this is not a build of the project")


def check_log(project, log):
    """Raise InvalidLog unless the value is a log of the project."""
    if not has_log_form(project, log):
        raise InvalidLog("this is not a log of the project")


def check_room(log):
    """Raise TooLarge if the log has no room for one more build."""
    if len(log) >= MOST_BUILDS:
        raise TooLarge(MOST_BUILDS)


def check_plans(project, plans):
    """Raise InvalidLog unless the value is a list of plans for builds."""
    if not has_plans_form(project, plans):
        raise InvalidLog("this is not a list of plans for builds of the project")


def check_target(project, target):
    """Raise InvalidTarget unless the value is a target of the project."""
    if not is_one_of(target, project[1]):
        raise InvalidTarget("this is not a target of the project")


def check_name(project, name):
    """Raise InvalidName unless the value is a name of the project."""
    if not is_one_of(name, project[0]) and not is_one_of(name, project[1]):
        raise InvalidName("this is not a name of the project")


def check_other_name(project, target, name):
    """Raise InvalidName unless the value is a name of the project other than the target."""
    check_name(project, name)
    if name == target:
        raise InvalidName("this is the target itself")


def check_selection(value, names):
    """Raise InvalidNames unless the value is a list of some of the names without duplicates."""
    if not is_selection(value, names):
        raise InvalidNames("this is not a list of such names without duplicates")


def check_results(project, results):
    """Raise InvalidResults unless the value gives every target a result."""
    if not has_results_form(project, results):
        raise InvalidResults("these are not results of the project")


def check_number(number, most):
    """Raise InvalidNumber unless the value is an integer from 0 to the given one."""
    if not is_integer_up_to(number, most):
        raise InvalidNumber("this is not an integer within the bounds")


def check_something_to_undo(calls):
    """Raise NothingToUndo if the list of what can be reverted is empty."""
    if not calls:
        raise NothingToUndo("there is nothing to undo")
