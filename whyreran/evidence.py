"""What a log tells about the dependencies of each target (point 10)."""

from whyreran.checks import check_log, check_project
from whyreran.columns import Columns


class Evidence:
    """The permitted names and the needs of each target, as columns of the log.

    A need of a target is a place of its wants, and the names of the need are the permitted names
    whose signals have this place: the first place of a build asks for a changed name, the second
    one for a broken name.
    """

    def __init__(self, project, log):
        columns = Columns(project, log)
        self.sources, self.targets = project
        self.names = sorted([*self.sources, *self.targets])
        self.length = len(log)
        self.signals = columns.signals
        self.bars = {}
        self.wants = {}
        self.lapses = {}
        self.helps = {}
        for target in self.targets:
            words = columns.words[target]
            idle = columns.firsts & ~words & ~(words >> 1)
            # Any signal excludes a name where the target is idle, the second one where it ran.
            self.bars[target] = idle | ((columns.firsts << 1) & ~words)
            self.wants[target] = words & ~columns.pending[target]
            self.lapses[target] = columns.pending[target] & idle
            self.helps[target] = self._permitted_signals(target)

    def _permitted_signals(self, target):
        bars = self.bars[target]
        return {
            name: self.signals[name]
            for name in self.names if not self.signals[name] & bars and name != target
        }

    def lack(self, target, names):
        """Return the places of the needs of a target that contain none of the names."""
        missing = self.wants[target]
        helps = self.helps[target]
        for name in names:
            missing &= ~helps.get(name, 0)
        return missing

    def need_at(self, target, index):
        """Return the names of the need of a target in a build, or None if it has none there."""
        helps = self.helps[target]
        for place in (2 * index, 2 * index + 1):
            if self.wants[target] >> place & 1:
                return [name for name in helps if helps[name] >> place & 1]
        return None

    def agrees_with(self, graph):
        """Tell whether a graph explains the log."""
        for target in self.targets:
            if self.lapses[target] or self.lack(target, graph[target]):
                return False
            if any([name not in self.helps[target] for name in graph[target]]):
                return False
        return True


def read_evidence(project, log):
    """Return what a log tells. Raise InvalidProject or InvalidLog if it cannot be read."""
    check_project(project)
    check_log(project, log)
    return Evidence(project, log)
