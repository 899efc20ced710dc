"""Values, small worlds and a second statement of the rule, for the tests."""

from itertools import combinations, product

from whyreran.errors import RerunError

STATUSES = ["new", "same", "failed", "blocked", "idle"]
RESULTS = ["new", "same", "failed"]


class Wild:
    """An object that cannot be compared, measured, tested or iterated."""

    def refuse(self, *args):
        raise AssertionError("a value of another kind must be left alone")

    __eq__ = __ne__ = __lt__ = __gt__ = __le__ = __ge__ = refuse
    __len__ = __bool__ = __iter__ = __contains__ = __getitem__ = __add__ = refuse

    def __hash__(self):
        return hash("a")


def odd_values():
    """Return values of many kinds; none is a project, a graph, a build or results of P below."""
    endless = []
    endless.append(endless)
    return [
        None, True, False, 0, 1, -1, 10 ** 30, 1.5, 0.0, float("nan"), 1j, "", "s", "a", "zz", "A",
        b"", b"a", [], [[]], [None], [0], ["zz"], ["a", "zz"], [b"a"], ["a", "a"], ["s", "s"],
        [["a"]], ["s", "a"], (), ("a",), ("s", "a"), ([],), ([], [], []), ({}, {}), ("", ""),
        (None, None), {}, {"a": "new"}, {"a": []}, {1: 2}, {"a": 1, "b": 2, "c": 3},
        {"a": "new", "b": [], "c": {}}, {"a": [], "b": [], "s": []}, set(), {"a"}, frozenset(["s"]),
        object(), int, len, lambda: [], range(3), iter([]), (name for name in ["a"]), endless,
        Wild(), [Wild()], ["s", Wild()], (Wild(), Wild()), ([Wild()], [Wild()]), {"a": Wild()},
        {"a": Wild(), "b": Wild(), "c": Wild()}, {Wild(): [], "b": [], "c": []}, [(Wild(), {})],
        [([], Wild())], [([], {"a": Wild(), "b": Wild(), "c": Wild()})],
    ]


P = (["s", "u"], ["a", "b", "c"])
G = {"a": ["s"], "b": ["a", "u"], "c": ["b"]}
L = [
    (["s"], {"a": "failed", "b": "blocked", "c": "blocked"}),
    ([], {"a": "new", "b": "same", "c": "same"}),
    (["u"], {"a": "idle", "b": "new", "c": "same"}),
]


def subsets(names):
    """Return all sublists of a list."""
    return [list(some) for size in range(len(names) + 1) for some in combinations(names, size)]


def all_dependencies(project):
    """Return all dicts from every target to a list of names, also those with cycles."""
    sources, targets = project
    choices = subsets(sorted(sources + targets))
    return [dict(zip(targets, row)) for row in product(choices, repeat=len(targets))]


def pairs_above(project, dependencies):
    """Return all pairs (x, t) for which a path with at least two names leads from x to t."""
    pairs = {(name, target) for target in project[1] for name in dependencies[target]}
    while True:
        more = {(x, t) for x, y in pairs for z, t in pairs if y == z} - pairs
        if not more:
            return pairs
        pairs |= more


def all_graphs(project):
    """Return all graphs of a project."""
    found = []
    for dependencies in all_dependencies(project):
        pairs = pairs_above(project, dependencies)
        if not any((target, target) in pairs for target in project[1]):
            found.append(dependencies)
    return found


def all_builds(project):
    """Return all builds of a project."""
    sources, targets = project
    return [
        (changed, dict(zip(targets, row)))
        for changed in subsets(sources)
        for row in product(STATUSES, repeat=len(targets))
    ]


def all_results(project):
    """Return all results of a project."""
    targets = project[1]
    return [dict(zip(targets, row)) for row in product(RESULTS, repeat=len(targets))]


def word_by_the_rule(graph, pending, build, target):
    """Return the word of point 9 for a target, in the terms of the document."""
    changed, statuses = build
    changed_names = set(changed) | {t for t in statuses if statuses[t] == "new"}
    broken_names = {t for t in statuses if statuses[t] in ("failed", "blocked")}
    dependencies = set(graph[target])
    if dependencies & broken_names:
        return "blocked"
    if target in pending or dependencies & changed_names:
        return "runs"
    return "idle"


def word_of_status(status):
    """Return the word that agrees with a status."""
    return "runs" if status in RESULTS else status


def shown(value):
    """Return a string that tells the order of dicts as well."""
    return repr(value)


def holders(value):
    """Return all lists and dicts in a value, each as often as it stands there."""
    found = [value] if isinstance(value, (list, dict)) else []
    if isinstance(value, (list, tuple)):
        inner = value
    else:
        inner = value.values() if isinstance(value, dict) else []
    return found + [holder for part in inner for holder in holders(part)]


def spoil(value):
    """Change every list and dict in a value."""
    for holder in holders(value):
        if isinstance(holder, list):
            holder.append("spoiled")
        else:
            holder["spoiled"] = ["spoiled"]


def turned(value):
    """Return a copy of a value in which all dicts have the opposite order."""
    if isinstance(value, dict):
        return {key: turned(value[key]) for key in reversed(list(value))}
    if isinstance(value, (list, tuple)):
        return value.__class__([turned(part) for part in value])
    return value


def result_of(function, *args):
    """Return what a call returns, or what it raises."""
    try:
        return shown(function(*args))
    except RerunError as error:
        return (error.__class__, shown(vars(error)))
