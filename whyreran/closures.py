"""Closures (point 11): orders of targets, the graphs that follow from them, and obstructions."""

from whyreran.columns import first_index
from whyreran.errors import NotExplained
from whyreran.forms import is_integer_up_to, is_one_of


def closure(evidence, names):
    """Return the closure without the names."""
    return spread(evidence, [], names)[0]


def spread(evidence, start, names):
    """Append all targets that can be appended behind those of the start, without the names.

    Return the order, and a dict from the targets that are neither in it nor among the names to the
    places of the needs that still keep them out.
    """
    order = list(start)
    at_hand = [source for source in evidence.sources if source not in names] + order
    left = {
        target: evidence.lack(target, at_hand)
        for target in evidence.targets if target not in names and target not in order
    }
    ready = _first_ready(left)
    while ready is not None:
        order.append(ready)
        left = {
            target: left[target] & ~evidence.helps[target].get(ready, 0)
            for target in left if target != ready
        }
        ready = _first_ready(left)
    return order, left


def _first_ready(left):
    for target in left:
        if not left[target]:
            return target
    return None


def graph_in_order(evidence, order):
    """Return the graph in which each target has all dependencies that the order lets it have."""
    graph = {}
    at_hand = {source: True for source in evidence.sources}
    for target in order:
        graph[target] = [name for name in evidence.helps[target] if name in at_hand]
        at_hand[target] = True
    return {target: graph[target] for target in evidence.targets}


def graph_that_avoids(evidence, names):
    """Return an explaining graph with no name above the targets of the closure without the names."""
    free = closure(evidence, names)
    order, _ = spread(evidence, free, [])
    graph = graph_in_order(evidence, order)
    for target in free:
        graph[target] = [name for name in graph[target] if name not in names]
    return graph


def graph_with_all_possible(evidence, target):
    """Return a graph that explains the log, and in which the target has all its possible names."""
    # All targets that can do without this one come before it, so it may depend on all of them.
    order, _ = spread(evidence, [*closure(evidence, [target]), target], [])
    return graph_in_order(evidence, order)


def possible_names(evidence, target):
    """Return the names on which the target depends in some explaining graph."""
    free = closure(evidence, [target])
    return [
        name for name in evidence.helps[target] if name in evidence.sources or name in free
    ]


def certain_targets_below(evidence, name):
    """Return the targets that are below the name in every explaining graph."""
    free = closure(evidence, [name])
    return [target for target in evidence.targets if target != name and target not in free]


def stuck_groups(evidence, names):
    """Return the targets outside the closure and the names, each with the first build to blame."""
    left = spread(evidence, [], names)[1]
    return {target: first_index(left[target]) for target in left}


def is_stuck_group(evidence, names, value):
    """Tell whether a value gives targets to blame builds for, as is_stuck asks."""
    if not isinstance(value, dict):
        return False
    for key in value:
        if not is_one_of(key, evidence.targets) or key in names:
            return False
    held = [*names, *value]
    return all([_is_held_at(evidence, target, value[target], held) for target in value])


def _is_held_at(evidence, target, index, held):
    """Tell whether the target has a need in a build, and the whole need is among the held names."""
    if not is_integer_up_to(index, evidence.length - 1):
        return False
    need = evidence.need_at(target, index)
    return need is not None and all([name in held for name in need])


def obstruction_in(evidence):
    """Return the obstruction that find_obstruction returns, or None."""
    lapses = [
        (first_index(evidence.lapses[target]), target)
        for target in evidence.targets if evidence.lapses[target]
    ]
    if lapses:
        index, target = min(lapses)
        return ("idle", index, target)
    choices = stuck_groups(evidence, [])
    return ("group", choices) if choices else None


def check_explained(evidence):
    """Raise NotExplained if no graph explains the log."""
    obstruction = obstruction_in(evidence)
    if obstruction is not None:
        raise NotExplained(obstruction)
