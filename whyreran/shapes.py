"""What decides the logs of a graph: live names, paths around names, the greatest and the least form.

A set of names is a mask here, with the bits that the links of the graph give to the names.
"""


def names_in(links, mask):
    """Return the ascending list of the names of a mask."""
    return [name for name in links.bits if links.bits[name] & mask]


def graph_of(links, masks):
    """Return the graph with these masks of dependencies."""
    return {target: names_in(links, masks[target]) for target in links.targets}


def sources_of(links):
    """Return the ascending list of the sources."""
    return [name for name in links.bits if name not in links.masks]


def reached_around(links, barred):
    """Return the names that end a path from a source on which no name is barred."""
    reached = sum([links.bits[name] for name in sources_of(links)]) & ~barred
    for target in links.order:
        bit = links.bits[target]
        if links.masks[target] & reached and not bit & barred:
            reached |= bit
    return reached


def live_names(links):
    """Return the sources and the live targets."""
    return reached_around(links, 0)


def live_targets_of(links):
    """Return the ascending list of the live targets."""
    live = live_names(links)
    return [target for target in links.targets if links.bits[target] & live]


def is_reached_from(links, name, reached):
    """Tell whether the name is a source, or has a dependency among the names that are reached."""
    return name not in links.masks or links.masks[name] & reached != 0


def path_around(links, name, barred):
    """Return a path from a source to the name with no barred name before its end, or None."""
    reached = reached_around(links, barred)
    if not is_reached_from(links, name, reached):
        return None
    path = [name]
    while path[0] in links.masks:
        path.insert(0, names_in(links, links.masks[path[0]] & reached)[0])
    return path


def names_above(links):
    """Return a dict from each target to the names above it."""
    above = {}
    for target in links.order:
        above[target] = links.masks[target] | _above_some(links, above, links.masks[target])
    return above


def _above_some(links, above, mask):
    """Return the names above at least one of the names of a mask."""
    found = 0
    for target in above:
        if links.bits[target] & mask:
            found |= above[target]
    return found


def is_superfluous_in(links, target, name):
    """Tell whether the graph has the same logs without the name among the dependencies."""
    # A target with a live dependency is live itself.
    if not links.bits[name] & live_names(links):
        return True
    own = links.masks[target]
    if is_reached_from(links, name, reached_around(links, own)):
        return False
    return links.bits[name] & _above_some(links, names_above(links), own) != 0


def greatest_masks(links):
    """Return the dependencies of the greatest form (point 50)."""
    live = live_names(links)
    above = names_above(links)
    found = {}
    for target in links.targets:
        # No path around the dependencies reaches these dependencies themselves.
        covered = live & ~reached_around(links, links.masks[target])
        # Above a dead target there are no live names.
        found[target] = above[target] & covered
    return found


def least_masks(links):
    """Return the dependencies of the least form (point 50)."""
    above = names_above(links)
    greatest = greatest_masks(links)
    found = {}
    for target in links.targets:
        whole = greatest[target]
        reached = reached_around(links, whole)
        doubled = _above_some(links, above, whole)
        found[target] = 0
        for name in names_in(links, whole):
            bit = links.bits[name]
            if not bit & doubled or is_reached_from(links, name, reached):
                found[target] += bit
    return found
