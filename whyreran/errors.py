"""The errors of the package."""


class RerunError(ValueError):
    """The base of all errors."""


class InvalidProject(RerunError):
    """The project is not a project."""


class InvalidGraph(RerunError):
    """The graph is not a graph of the project, or not one that is asked for."""


class InvalidBuild(RerunError):
    """The build is not a build of the project."""


class InvalidLog(RerunError):
    """The log, or the list of plans, is not one of the project."""


class InvalidTarget(RerunError):
    """The target is not a target of the project."""


class InvalidName(RerunError):
    """The name is not a name that can stand here."""


class InvalidNames(RerunError):
    """The list of names is not one that can stand here."""


class InvalidResults(RerunError):
    """The results are not results of the project."""


class InvalidNumber(RerunError):
    """The number is not an integer within the bounds."""


class InvalidMark(RerunError):
    """The mark has not been set by this recorder."""


class InvalidCommand(RerunError):
    """The row is not a row of the console."""


class NothingToUndo(RerunError):
    """There is no call that can be reverted."""


class NotExplained(RerunError):
    """No graph explains the log; the field is an obstruction of it."""

    def __init__(self, obstruction):
        super().__init__("no graph explains the log")
        self.obstruction = obstruction


class InvalidText(RerunError):
    """The text cannot be read; the field is the number of the wrong line, or None."""

    def __init__(self, position):
        super().__init__("the text cannot be read")
        self.position = position


class TooLarge(RerunError):
    """There is more than can be handled; the field is the limit."""

    def __init__(self, limit):
        super().__init__("the limit is exceeded")
        self.limit = limit
