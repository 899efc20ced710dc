"""The forms of names, projects, graphs, builds and logs. A form can be asked of any value.

Where a project is an argument, the callers have checked it. The strings of a log are checked as a
whole rather than build by build, as one look at all of them is much faster.
"""

from whyreran.graphs import Links, ascending_bits, mask_of

LETTERS = "abcdefghijklmnopqrstuvwxyz"
NAME_SIGNS = "abcdefghijklmnopqrstuvwxyz0123456789_."
LONGEST_NAME = 12
MOST_NAMES = 40
MOST_TARGETS = 20
MOST_BUILDS = 200

RESULTS = ("new", "same", "failed")
BROKEN = ("failed", "blocked")
STATUSES = ("new", "same", "failed", "blocked", "idle")


def has_name_form(value):
    """Tell whether a value is a name."""
    if not isinstance(value, str) or not 1 <= len(value) <= LONGEST_NAME:
        return False
    return value[0] in LETTERS and not value.strip(NAME_SIGNS)


def has_project_form(value):
    """Tell whether a value is a project."""
    if not isinstance(value, tuple) or len(value) != 2:
        return False
    sources, targets = value
    if not isinstance(sources, list) or not isinstance(targets, list):
        return False
    if len(targets) > MOST_TARGETS or len(sources) + len(targets) > MOST_NAMES:
        return False
    names = [*sources, *targets]
    if not _are_names(names) or len(set(names)) != len(names):
        return False
    return sources == sorted(sources) and targets == sorted(targets)


def _are_names(values):
    """Tell whether all values are names, by the signs of all of them together."""
    if not _are_strings(values) or "" in values or _longest(values) > LONGEST_NAME:
        return False
    firsts = "".join([value[0] for value in values])
    # Without certain signs at its ends, a text is empty if it has no other signs at all.
    return not firsts.strip(LETTERS) and not "".join(values).strip(NAME_SIGNS)


def _longest(values):
    """Return the greatest number of signs of one of the strings, and 0 if there are none."""
    return max(map(len, values)) if values else 0


def _are_strings(values):
    for value in values:
        if not isinstance(value, str):
            return False
    return True


def is_one_of(value, names):
    """Tell whether a value is one of the names."""
    # A value of another kind may compare in its own way, so it is not compared at all.
    return isinstance(value, str) and value in names


def is_integer_up_to(value, most):
    """Tell whether a value is an integer from 0 to the given one."""
    return isinstance(value, int) and not isinstance(value, bool) and 0 <= value <= most


def is_selection(value, names):
    """Tell whether a value is a list of some of the names without duplicates, in any order."""
    if not isinstance(value, list) or not _are_strings(value) or len(set(value)) != len(value):
        return False
    return len(set(value) - set(names)) == 0


def dependency_links(project, value):
    """Return the links of a value that is like a graph, but perhaps with cycles, otherwise None."""
    sources, targets = project
    if not isinstance(value, dict) or len(value) != len(targets):
        return None
    if not _are_strings(value) or len(set(value) - set(targets)) > 0:
        return None
    bits = ascending_bits([*sources, *targets])
    masks = {}
    for target in targets:
        masks[target] = mask_of(bits, value[target])
        if masks[target] is None:
            return None
    return Links(targets, bits, masks)


def graph_links(project, value):
    """Return the links of a value that is a graph of the project, otherwise None."""
    links = dependency_links(project, value)
    return None if links is None or links.has_cycle() else links


def has_results_form(project, value):
    """Tell whether a value gives every target a result."""
    return _give_words([value], project[1], RESULTS)


def _give_words(values, targets, words):
    """Tell whether each of the values is a dict from every target to one of the words."""
    for value in values:
        if not isinstance(value, dict) or len(value) != len(targets):
            return False
    # What is no string is missing here: it may compare in its own way, so it is not compared.
    keys = [key for value in values for key in value if isinstance(key, str)]
    given = [word for value in values for word in value.values() if isinstance(word, str)]
    if len(keys) + len(given) < 2 * len(values) * len(targets):
        return False
    return len(set(keys) - set(targets)) == 0 and len(set(given) - set(words)) == 0


def has_build_form(project, value):
    """Tell whether a value is a build of the project."""
    return has_log_form(project, [value])


def has_log_form(project, value):
    """Tell whether a value is a log of the project."""
    sources, targets = project
    if not _are_pairs(value):
        return False
    bits = ascending_bits(sources)
    for changed, _ in value:
        if mask_of(bits, changed) is None:
            return False
    return _give_words([statuses for _, statuses in value], targets, STATUSES)


def has_plans_form(project, value):
    """Tell whether a value is a list of plans for the builds of a log."""
    sources, targets = project
    if not _are_pairs(value) or not all([is_selection(changed, sources) for changed, _ in value]):
        return False
    return _give_words([results for _, results in value], targets, RESULTS)


def _are_pairs(value):
    """Tell whether a value is a list of tuples of two, at most as many as a log may have."""
    if not isinstance(value, list) or len(value) > MOST_BUILDS:
        return False
    for pair in value:
        if not isinstance(pair, tuple) or len(pair) != 2:
            return False
    return True
