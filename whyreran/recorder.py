"""A recorder of builds whose graph is not known."""

from whyreran.builds import copied_build, pending_at
from whyreran.checks import check_build, check_project, check_room, check_something_to_undo
from whyreran.deciding import certain_dependencies
from whyreran.errors import InvalidMark
from whyreran.explaining import find_obstruction, is_explained
from whyreran.forms import is_integer_up_to
from whyreran.next_builds import least_reruns


class Recorder:
    """A log that grows, with marks to which it can return.

    A call never changes a log that is there, but puts another one in its place. So the logs before
    each call and those of the marks can be kept as they are.
    """

    def __init__(self, project):
        check_project(project)
        sources, targets = project
        self._project = (list(sources), list(targets))
        self._log = []
        self._earlier = []
        self._marked = []

    def add_build(self, build):
        """Append a build."""
        check_build(self._project, build)
        check_room(self._log)
        self._replace_log([*self._log, copied_build(build)])

    def undo(self):
        """Revert the last call of add_build or return_to that has not been reverted."""
        check_something_to_undo(self._earlier)
        self._log = self._earlier.pop()

    def set_mark(self):
        """Remember the log, and return a mark for it."""
        self._marked.append(self._log)
        return len(self._marked) - 1

    def return_to(self, mark):
        """Make the log equal to the log at which the mark was set."""
        if not is_integer_up_to(mark, len(self._marked) - 1):
            raise InvalidMark("this recorder has not set this mark")
        self._replace_log(self._marked[mark])

    def _replace_log(self, log):
        self._earlier.append(self._log)
        self._log = log

    def builds(self):
        """Return the log."""
        return [copied_build(build) for build in self._log]

    def pending_targets(self):
        """Return the targets that are pending in the next build."""
        return pending_at(self._log, len(self._log))

    def is_explained(self):
        """Tell whether some graph explains the log."""
        return is_explained(self._project, self._log)

    def find_obstruction(self):
        """Return None if the log is explained, otherwise an obstruction of it."""
        return find_obstruction(self._project, self._log)

    def certain_dependencies(self, target):
        """Return the names on which the target depends in every graph that explains the log."""
        return certain_dependencies(self._project, self._log, target)

    def least_reruns(self, changed):
        """Return the targets that run in every explaining graph if these sources are changed."""
        return least_reruns(self._project, self._log, changed)

    def duplicate(self):
        """Return an independent recorder with the same builds, marks and calls that can be undone."""
        other = Recorder(self._project)
        other._log = self._log
        other._earlier = list(self._earlier)
        other._marked = list(self._marked)
        return other

    def __len__(self):
        return len(self._log)

    def __eq__(self, other):
        if not isinstance(other, Recorder):
            return False
        return self._project == other._project and self._log == other._log
