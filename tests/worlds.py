"""Logs of small projects, all graphs that explain them, and points 10 and 11 in the document's words."""

import random
from functools import lru_cache
from itertools import product

from tests.support import STATUSES, all_builds, all_graphs, word_by_the_rule, word_of_status
from whyreran.builds import run_builds

BROKEN = ("failed", "blocked")
RAN = ("new", "same", "failed")

ONE = (["s"], ["a"])
PAIR = (["s"], ["a", "b"])
TWINS = (["b", "s"], ["a", "c"])
TRIO = (["s"], ["a", "b", "c"])
BARE = ([], ["a", "b"])
DRY = (["s", "u"], [])
VOID = ([], [])
PROJECTS = [ONE, PAIR, TWINS, TRIO, BARE, DRY, VOID]


@lru_cache(maxsize=None)
def _graphs(key):
    return all_graphs((list(key[0]), list(key[1])))


def graphs_of(project):
    """Return all graphs of a project; do not change them."""
    return _graphs((tuple(project[0]), tuple(project[1])))


@lru_cache(maxsize=None)
def _fitting(key, pending, changed, row):
    build = (list(changed), dict(zip(key[1], row)))
    return frozenset(
        number for number, graph in enumerate(_graphs(key))
        if all(
            word_by_the_rule(graph, pending, build, target) == word_of_status(build[1][target])
            for target in key[1]
        )
    )


def pending_before(log, index):
    """Return the targets that are pending in a build, as point 8 says."""
    if index == 0:
        return []
    statuses = log[index - 1][1]
    return sorted(target for target in statuses if statuses[target] in BROKEN)


def explaining_graphs(project, log):
    """Return all graphs that explain a log, tried one by one with the rule of point 9."""
    key = (tuple(project[0]), tuple(project[1]))
    numbers = set(range(len(_graphs(key))))
    for index, (changed, statuses) in enumerate(log):
        row = tuple(statuses[target] for target in project[1])
        numbers &= _fitting(key, tuple(pending_before(log, index)), tuple(changed), row)
    return [_graphs(key)[number] for number in sorted(numbers)]


def changed_names(build):
    changed, statuses = build
    return set(changed) | {target for target in statuses if statuses[target] == "new"}


def broken_names(build):
    return {target for target in build[1] if build[1][target] in BROKEN}


def excluding_builds(log, target, name):
    """Return the tuples (index, word) of all builds that exclude a name, as point 10 says."""
    found = []
    for index, build in enumerate(log):
        status = build[1][target]
        if status == "idle" and name in changed_names(build):
            found.append((index, "changed"))
        elif status in ("idle",) + RAN and name in broken_names(build):
            found.append((index, "broken"))
    return found


def permitted_by_definition(project, log, target):
    names = sorted(project[0] + project[1])
    return [x for x in names if x != target and not excluding_builds(log, target, x)]


def needs_by_definition(project, log, target):
    """Return the tuples (index, names) of all needs of a target, as point 10 says."""
    permitted = permitted_by_definition(project, log, target)
    found = []
    for index, build in enumerate(log):
        status = build[1][target]
        if status in RAN and target not in pending_before(log, index):
            found.append((index, [x for x in permitted if x in changed_names(build)]))
        elif status == "blocked":
            found.append((index, [x for x in permitted if x in broken_names(build)]))
    return found


def closure_by_definition(project, log, names):
    """Return the closure without the names, one step after another, as point 11 says."""
    needs = {t: [set(x) for _, x in needs_by_definition(project, log, t)] for t in project[1]}
    order = []
    while True:
        held = (set(project[0]) - set(names)) | set(order)
        fresh = [
            t for t in project[1]
            if t not in order and t not in names and all(need & held for need in needs[t])
        ]
        if not fresh:
            return order
        order.append(min(fresh))


def lapses_by_definition(log):
    """Return the tuples (index, target) of all pending targets that are idle."""
    return [
        (index, target)
        for index, (_, statuses) in enumerate(log)
        for target in pending_before(log, index) if statuses[target] == "idle"
    ]


def above_by_paths(graph, name):
    """Return the set of the names from which a path leads to a name."""
    found = set()
    fresh = set(graph.get(name, []))
    while fresh:
        found |= fresh
        fresh = {x for target in fresh for x in graph.get(target, [])} - found
    return found


def random_build(rng, project):
    sources, targets = project
    changed = [source for source in sources if rng.random() < 0.5]
    return (changed, {target: rng.choice(STATUSES) for target in targets})


def random_plans(rng, project, count):
    sources, targets = project
    return [
        ([source for source in sources if rng.random() < 0.4],
         {target: rng.choice(RAN) for target in targets})
        for _ in range(count)
    ]


def some_logs(project, seed, count, longest):
    """Return logs of a project: those of its graphs, those with one status spoiled, and any others."""
    rng = random.Random(seed)
    logs = [[]]
    for _ in range(count):
        kind = rng.randrange(4)
        if kind == 0:
            logs.append([random_build(rng, project) for _ in range(rng.randrange(1, 4))])
            continue
        graph = rng.choice(graphs_of(project))
        log = run_builds(project, graph, random_plans(rng, project, rng.randrange(1, longest + 1)))
        if kind == 1 and project[1]:
            rng.choice(log)[1][rng.choice(project[1])] = rng.choice(STATUSES)
        logs.append(log)
    return logs


def mixed_logs():
    """Return pairs (project, log): all logs of one build of small projects, and longer ones."""
    found = [(project, [build]) for project in (ONE, PAIR, BARE, DRY, VOID)
             for build in all_builds(project)]
    found += [(ONE, [x, y]) for x, y in product(all_builds(ONE), repeat=2)]
    for seed, project in enumerate(PROJECTS):
        found += [(project, log) for log in some_logs(project, seed, 250, 5)]
    return found


def big_world(seed, sources, targets, count):
    """Return a project of this size, one of its graphs, and a log of the graph."""
    rng = random.Random(seed)
    project = (
        ["s%02d" % number for number in range(sources)],
        ["t%02d" % number for number in range(targets)],
    )
    order = list(project[1])
    rng.shuffle(order)
    graph = {}
    for target in project[1]:
        before = project[0] + order[:order.index(target)]
        graph[target] = sorted(x for x in before if rng.random() < 3 / max(3, len(before)))
    return project, graph, run_builds(project, graph, random_plans(rng, project, count))

