"""A build tool that knows its graph."""

from whyreran.builds import copied_build, pending_at, ruled_statuses
from whyreran.checks import (
    check_graph,
    check_project,
    check_results,
    check_room,
    check_selection,
    check_something_to_undo,
)
from whyreran.shapes import graph_of


class BuildTool:
    """A tool that runs builds of a graph, one after the other, and keeps their log.

    What stands in the log is never changed, so that several tools can hold the same builds.
    """

    def __init__(self, project, graph):
        check_project(project)
        sources, targets = project
        self._project = (list(sources), list(targets))
        self._links = check_graph(self._project, graph)
        self._log = []

    def run(self, changed, results):
        """Run the next build, and return the status of every target."""
        check_selection(changed, self._project[0])
        check_results(self._project, results)
        check_room(self._log)
        statuses = ruled_statuses(self._links, self.pending_targets(), changed, results)
        self._log.append((sorted(changed), statuses))
        return dict(statuses)

    def pending_targets(self):
        """Return the targets that are pending in the next build."""
        return pending_at(self._log, len(self._log))

    def history(self):
        """Return the log of all builds that have not been reverted."""
        return [copied_build(build) for build in self._log]

    def undo(self):
        """Revert the last build."""
        check_something_to_undo(self._log)
        self._log.pop()

    def duplicate(self):
        """Return an independent tool with the same project, graph and builds."""
        other = BuildTool(self._project, graph_of(self._links, self._links.masks))
        other._log = list(self._log)
        return other

    def __len__(self):
        return len(self._log)

    def __eq__(self, other):
        if not isinstance(other, BuildTool):
            return False
        if self._project != other._project or self._links.masks != other._links.masks:
            return False
        return self._log == other._log
