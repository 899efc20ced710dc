"""Builds of a graph that tell it from other graphs.

Nothing is pending in these builds. Where all sources are changed, no target is idle that could ever
be pending, so such a build can follow any other build of the graph as it stands.
"""

from whyreran.builds import ruled_statuses
from whyreran.shapes import (
    greatest_masks,
    live_names,
    live_targets_of,
    names_above,
    names_in,
    path_around,
    sources_of,
)


def running_build(links):
    """Return the build in which all sources are changed and every run ends new."""
    return _build(links, sources_of(links), {target: "new" for target in links.targets})


def failing_build(links, target):
    """Return the build in which all sources are changed and only the run of the target fails."""
    results = {other: "failed" if other == target else "new" for other in links.targets}
    return _build(links, sources_of(links), results)


def path_build(links, path):
    """Return the build in which only the names of a path from a source are changed."""
    results = {target: "new" if target in path else "same" for target in links.targets}
    return _build(links, [path[0]], results)


def _build(links, changed, results):
    return (changed, ruled_statuses(links, [], changed, results))


def separation_of(first, second):
    """Return a build that only one of two graphs explains, and 1 or 2 for this graph, or None."""
    if live_names(first) != live_names(second):
        # All live targets run in this build, and no others do.
        return (running_build(first), 1)
    build = _build_against(first, second)
    if build is not None:
        return (build, 1)
    build = _build_against(second, first)
    return None if build is None else (build, 2)


def _build_against(links, other):
    """Return a build that the graph explains, and another one with the same live targets does not.

    The build is None if all live dependencies of the other one are in the greatest form of the graph.
    """
    live = live_names(links)
    above = names_above(links)
    greatest = greatest_masks(links)
    for target in live_targets_of(links):
        more = other.masks[target] & live & ~greatest[target]
        if more:
            name = names_in(links, more)[0]
            if name in links.masks and not links.bits[name] & above[target]:
                # The target runs though the name is broken.
                return failing_build(links, name)
            # The target stays idle though the name is changed.
            return path_build(links, path_around(links, name, links.masks[target]))
    return None
