"""Logs of small projects, all graphs that explain them, and points 10 and 11 in the document's words."""

import random
from functools import lru_cache
from itertools import product

from tests.support import STATUSES, all_builds, all_graphs, word_by_the_rule, word_of_status
from whyreran.builds import run_builds

BROKEN = ("failed", "blocked")
RAN = ("new", "same", "failed")

ONE = (["s"], ["a"])
PAIR = (["s"], ["a", "b"])
TWINS = (["b", "s"], ["a", "c"])
TRIO = (["s"], ["a", "b", "c"])
BARE = ([], ["a", "b"])
DRY = (["s", "u"], [])
VOID = ([], [])
PROJECTS = [ONE, PAIR, TWINS, TRIO, BARE, DRY, VOID]


@lru_cache(maxsize=None)
def _graphs(key):
    return all_graphs((list(key[0]), list(key[1])))


def graphs_of(project):
    """Return all graphs of a project; do not change them."""
    return _graphs((tuple(project[0]), tuple(project[1])))


@lru_cache(maxsize=None)
def _fitting(key, pending, changed, row):
    build = (list(changed), dict(zip(key[1], row)))
    return frozenset(
        number for number, graph in enumerate(_graphs(key))
        if all(
            word_by_the_rule(graph, pending, build, target) == word_of_status(build[1][target])
            for target in key[1]
        )
    )


def pending_before(log, index):
    """Return the targets that are pending in a build, as point 8 says."""
    if index == 0:
        return []
    statuses = log[index - 1][1]
    return sorted(target for target in statuses if statuses[target] in BROKEN)


def fitting_graphs(project, log, indexes):
    """Return the numbers of all graphs that fit some builds of a log, as points 9 and 58 say."""
    key = (tuple(project[0]), tuple(project[1]))
    numbers = set(range(len(_graphs(key))))
    for index in indexes:
        changed, statuses = log[index]
        row = tuple(statuses[target] for target in project[1])
        numbers &= _fitting(key, tuple(pending_before(log, index)), tuple(changed), row)
    return sorted(numbers)


def explaining_graphs(project, log):
    """Return all graphs that explain a log, tried one by one with the rule of point 9."""
    numbers = fitting_graphs(project, log, range(len(log)))
    return [graphs_of(project)[number] for number in numbers]


@lru_cache(maxsize=None)
def _builds_of_graphs(key):
    project = (list(key[0]), list(key[1]))
    found = [set() for _ in _graphs(key)]
    for at, build in enumerate(all_builds(project)):
        for number in fitting_graphs(project, [build], [0]):
            found[number].add(at)
    return {repr(graph): frozenset(some) for graph, some in zip(_graphs(key), found)}


def builds_of_graph(project, graph):
    """Return the set of the places in all_builds of the logs of one build that a graph explains."""
    rows = _builds_of_graphs((tuple(project[0]), tuple(project[1])))
    return rows[repr({target: graph[target] for target in project[1]})]


def live_by_paths(project, graph):
    """Return the set of the live names of a graph, as point 12 says."""
    live = {x for x in project[1] if above_by_paths(graph, x) & set(project[0])}
    return live | set(project[0])


def chain_world(sources, targets):
    """Return a project of this size and its graph in which each target depends on the one before."""
    project = numbered_project(sources, targets)
    graph = {target: project[1][at - 1:at] if at else list(project[0])
             for at, target in enumerate(project[1])}
    return project, graph


def dense_world(sources, targets):
    """Return a project of this size and its graph in which each target depends on all before it."""
    project = numbered_project(sources, targets)
    return project, {t: project[0] + project[1][:at] for at, t in enumerate(project[1])}


def numbered_project(sources, targets):
    return (
        ["s%02d" % number for number in range(sources)],
        ["t%02d" % number for number in range(targets)],
    )


def changed_names(build):
    changed, statuses = build
    return set(changed) | {target for target in statuses if statuses[target] == "new"}


def broken_names(build):
    return {target for target in build[1] if build[1][target] in BROKEN}


def excluding_builds(log, target, name):
    """Return the tuples (index, word) of all builds that exclude a name, as point 10 says."""
    found = []
    for index, build in enumerate(log):
        status = build[1][target]
        if status == "idle" and name in changed_names(build):
            found.append((index, "changed"))
        elif status in ("idle",) + RAN and name in broken_names(build):
            found.append((index, "broken"))
    return found


def permitted_by_definition(project, log, target):
    names = sorted(project[0] + project[1])
    return [x for x in names if x != target and not excluding_builds(log, target, x)]


def needs_by_definition(project, log, target):
    """Return the tuples (index, names) of all needs of a target, as point 10 says."""
    permitted = permitted_by_definition(project, log, target)
    found = []
    for index, build in enumerate(log):
        status = build[1][target]
        if status in RAN and target not in pending_before(log, index):
            found.append((index, [x for x in permitted if x in changed_names(build)]))
        elif status == "blocked":
            found.append((index, [x for x in permitted if x in broken_names(build)]))
    return found


def closure_by_definition(project, log, names):
    """Return the closure without the names, one step after another, as point 11 says."""
    needs = {t: [set(x) for _, x in needs_by_definition(project, log, t)] for t in project[1]}
    order = []
    while True:
        held = (set(project[0]) - set(names)) | set(order)
        fresh = [
            t for t in project[1]
            if t not in order and t not in names and all(need & held for need in needs[t])
        ]
        if not fresh:
            return order
        order.append(min(fresh))


def lapses_by_definition(log):
    """Return the tuples (index, target) of all pending targets that are idle."""
    return [
        (index, target)
        for index, (_, statuses) in enumerate(log)
        for target in pending_before(log, index) if statuses[target] == "idle"
    ]


def above_by_paths(graph, name):
    """Return the set of the names from which a path leads to a name."""
    found = set()
    fresh = set(graph.get(name, []))
    while fresh:
        found |= fresh
        fresh = {x for target in fresh for x in graph.get(target, [])} - found
    return found


def random_build(rng, project):
    sources, targets = project
    changed = [source for source in sources if rng.random() < 0.5]
    return (changed, {target: rng.choice(STATUSES) for target in targets})


def random_plans(rng, project, count):
    sources, targets = project
    return [
        ([source for source in sources if rng.random() < 0.4],
         {target: rng.choice(RAN) for target in targets})
        for _ in range(count)
    ]


def some_logs(project, seed, count, longest):
    """Return logs of a project: those of its graphs, those with one status spoiled, and any others."""
    rng = random.Random(seed)
    logs = [[]]
    for _ in range(count):
        kind = rng.randrange(4)
        if kind == 0:
            logs.append([random_build(rng, project) for _ in range(rng.randrange(1, 4))])
            continue
        graph = rng.choice(graphs_of(project))
        log = run_builds(project, graph, random_plans(rng, project, rng.randrange(1, longest + 1)))
        if kind == 1 and project[1]:
            rng.choice(log)[1][rng.choice(project[1])] = rng.choice(STATUSES)
        logs.append(log)
    return logs


def mixed_logs():
    """Return pairs (project, log): all logs of one build of small projects, and longer ones."""
    found = [(project, [build]) for project in (ONE, PAIR, BARE, DRY, VOID)
             for build in all_builds(project)]
    found += [(ONE, [x, y]) for x, y in product(all_builds(ONE), repeat=2)]
    for seed, project in enumerate(PROJECTS):
        found += [(project, log) for log in some_logs(project, seed, 250, 5)]
    return found


def big_world(seed, sources, targets, count):
    """Return a project of this size, one of its graphs, and a log of the graph."""
    rng = random.Random(seed)
    project = numbered_project(sources, targets)
    order = list(project[1])
    rng.shuffle(order)
    graph = {}
    for target in project[1]:
        before = project[0] + order[:order.index(target)]
        graph[target] = sorted(x for x in before if rng.random() < 3 / max(3, len(before)))
    return project, graph, run_builds(project, graph, random_plans(rng, project, count))

