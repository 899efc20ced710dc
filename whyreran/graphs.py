"""Walks through dependencies. The callers have checked the arguments."""


def processing_order(project, dependencies):
    """Return the targets in processing order, without those on a cycle or below one."""
    sources, targets = project
    done = {name: True for name in sources}
    order = []
    target = _first_ready(targets, dependencies, done)
    while target is not None:
        done[target] = True
        order.append(target)
        target = _first_ready(targets, dependencies, done)
    return order


def _first_ready(targets, dependencies, done):
    """Return the least target that is not done but whose dependencies are, or None."""
    for target in targets:
        if target not in done and all([name in done for name in dependencies[target]]):
            return target
    return None


def find_cycle(project, dependencies):
    """Return the targets of a cycle, each one a dependency of the next one, or None."""
    ordered = processing_order(project, dependencies)
    left = [target for target in project[1] if target not in ordered]
    if not left:
        return None
    # Every target that is left waits for one that is left, so the walk comes back to itself.
    walk = []
    target = left[0]
    while target not in walk:
        walk.append(target)
        awaited = [name for name in dependencies[target] if name in left]
        target = awaited[0]
    cycle = walk[walk.index(target):]
    # The walk went from targets to their dependencies, against the direction of a path.
    cycle.reverse()
    return cycle


def above_in(graph, name):
    """Return the ascending list of the names above a name."""
    above = {}
    # A source has no entry in a graph, and nothing above it.
    waiting = list(graph.get(name, []))
    while waiting:
        found = waiting.pop()
        if found not in above:
            above[found] = True
            waiting.extend(graph.get(found, []))
    return sorted(above)


def below_in(project, graph, name):
    """Return the ascending list of the targets below a name."""
    reached = {name: True}
    below = []
    for target in processing_order(project, graph):
        if any([dependency in reached for dependency in graph[target]]):
            reached[target] = True
            below.append(target)
    return sorted(below)
