"""The forms of names, projects, graphs, builds and logs. A form can be asked of any value.

Where a project is an argument, the callers have checked it.
"""

from whyreran.graphs import find_cycle

LETTERS = "abcdefghijklmnopqrstuvwxyz"
NAME_SIGNS = "abcdefghijklmnopqrstuvwxyz0123456789_."
LONGEST_NAME = 12
MOST_NAMES = 40
MOST_TARGETS = 20
MOST_BUILDS = 200

RESULTS = ("new", "same", "failed")
BROKEN = ("failed", "blocked")
STATUSES = ("new", "same", "failed", "blocked", "idle")


def has_name_form(value):
    """Tell whether a value is a name."""
    if not isinstance(value, str) or not 1 <= len(value) <= LONGEST_NAME:
        return False
    return value[0] in LETTERS and all([sign in NAME_SIGNS for sign in value])


def has_project_form(value):
    """Tell whether a value is a project."""
    if not isinstance(value, tuple) or len(value) != 2:
        return False
    sources, targets = value
    if not _are_ascending_names(sources) or not _are_ascending_names(targets):
        return False
    if len(targets) > MOST_TARGETS or len(sources) + len(targets) > MOST_NAMES:
        return False
    return not any([name in targets for name in sources])


def _are_ascending_names(value):
    if not isinstance(value, list):
        return False
    return all([has_name_form(name) for name in value]) and _is_ascending(value)


def _is_ascending(names):
    """Tell whether strings ascend; equal neighbours do not, so there are no duplicates then."""
    return all([name < follower for name, follower in zip(names, names[1:])])


def is_one_of(value, names):
    """Tell whether a value is one of the names."""
    # A value of another kind may compare in its own way, so it is not compared at all.
    return isinstance(value, str) and value in names


def is_integer_up_to(value, most):
    """Tell whether a value is an integer from 0 to the given one."""
    return isinstance(value, int) and not isinstance(value, bool) and 0 <= value <= most


def is_selection(value, names):
    """Tell whether a value is a list of some of the names without duplicates, in any order."""
    if not isinstance(value, list) or not all([is_one_of(name, names) for name in value]):
        return False
    return len(set(value)) == len(value)


def is_ascending_selection(value, names):
    """Tell whether a value is an ascending list of some of the names without duplicates."""
    return is_selection(value, names) and _is_ascending(value)


def _has_targets_as_keys(value, targets):
    if not isinstance(value, dict) or len(value) != len(targets):
        return False
    return all([is_one_of(key, targets) for key in value])


def has_dependencies_form(project, value):
    """Tell whether a value is like a graph of the project, but perhaps with cycles."""
    sources, targets = project
    if not _has_targets_as_keys(value, targets):
        return False
    names = [*sources, *targets]
    return all([is_ascending_selection(value[target], names) for target in targets])


def has_graph_form(project, value):
    """Tell whether a value is a graph of the project."""
    return has_dependencies_form(project, value) and find_cycle(project, value) is None


def has_results_form(project, value):
    """Tell whether a value gives every target a result."""
    return _gives_words(project, value, RESULTS)


def _gives_words(project, value, words):
    targets = project[1]
    if not _has_targets_as_keys(value, targets):
        return False
    return all([is_one_of(value[target], words) for target in targets])


def has_build_form(project, value):
    """Tell whether a value is a build of the project."""
    if not isinstance(value, tuple) or len(value) != 2:
        return False
    changed, statuses = value
    return is_ascending_selection(changed, project[0]) and _gives_words(project, statuses, STATUSES)


def has_log_form(project, value):
    """Tell whether a value is a log of the project."""
    if not isinstance(value, list) or len(value) > MOST_BUILDS:
        return False
    return all([has_build_form(project, build) for build in value])


def has_plans_form(project, value):
    """Tell whether a value is a list of plans for the builds of a log."""
    if not isinstance(value, list) or len(value) > MOST_BUILDS:
        return False
    return all([_has_plan_form(project, plan) for plan in value])


def _has_plan_form(project, value):
    if not isinstance(value, tuple) or len(value) != 2:
        return False
    changed, results = value
    return is_selection(changed, project[0]) and has_results_form(project, results)
