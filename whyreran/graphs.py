"""Names as bits, and walks through dependencies."""


def ascending_bits(names):
    """Return a dict from each of the names to a bit; a greater name has a higher bit."""
    return {name: 1 << at for at, name in enumerate(sorted(names))}


def mask_of(bits, value):
    """Return the bits of an ascending list of names without duplicates, and None for other values."""
    if not isinstance(value, list):
        return None
    mask = 0
    for name in value:
        # A value of another kind may compare in its own way, so it is not even looked up.
        bit = bits.get(name, 0) if isinstance(name, str) else 0
        # What is unknown has no bit, and what is not greater than all before it has too low a bit.
        if bit <= mask:
            return None
        mask += bit
    return mask


class Links:
    """The dependencies of all targets, as masks with one bit for each name.

    The order is the processing order, without the targets that are on a cycle or below one.
    """

    def __init__(self, targets, bits, masks):
        self.targets = targets
        self.bits = bits
        self.masks = masks
        self.order = self._processing_order()

    def _processing_order(self):
        waiting = list(self.targets)
        left = sum([self.bits[target] for target in waiting])
        order = []
        target = self._first_ready(waiting, left)
        while target is not None:
            waiting.remove(target)
            left -= self.bits[target]
            order.append(target)
            target = self._first_ready(waiting, left)
        return order

    def _first_ready(self, waiting, left):
        """Return the least waiting target with no dependency among those that are left, or None."""
        for target in waiting:
            if not self.masks[target] & left:
                return target
        return None

    def has_cycle(self):
        """Tell whether there is a cycle."""
        return len(self.order) < len(self.targets)

    def cycle(self):
        """Return the targets of a cycle, each one a dependency of the next one, or None."""
        left = [target for target in self.targets if target not in self.order]
        if not left:
            return None
        # Every target that is left waits for one that is left, so the walk comes back to itself.
        walk = []
        target = left[0]
        while target not in walk:
            walk.append(target)
            awaited = [name for name in left if self.bits[name] & self.masks[target]]
            target = awaited[0]
        cycle = walk[walk.index(target):]
        # The walk went from targets to their dependencies, against the direction of a path.
        cycle.reverse()
        return cycle

    def above(self, name):
        """Return the ascending list of the names above a name."""
        # A source has no mask, and nothing above it.
        found = self.masks.get(name, 0)
        bits = self.bits
        for target in reversed(self.order):
            if bits[target] & found:
                found |= self.masks[target]
        return [other for other in bits if bits[other] & found]

    def below(self, name):
        """Return the ascending list of the targets below a name."""
        reached = self.bits[name]
        below = []
        for target in self.order:
            if self.masks[target] & reached:
                reached |= self.bits[target]
                below.append(target)
        return sorted(below)
