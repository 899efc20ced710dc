"""A console that keeps a recorder and answers rows of words."""

from whyreran.avoiding import certain_above
from whyreran.deciding import standing_of
from whyreran.errors import InvalidCommand
from whyreran.explaining import explanation
from whyreran.recorder import Recorder
from whyreran.texts import format_graph, format_log, parse_build

# The rows that always have the same number of words.
WORD_COUNTS = {"undo": 1, "log": 1, "explained": 1, "why": 3, "above": 2, "graph": 1}


class Console:
    """A recorder, at first none, that is driven by rows."""

    def __init__(self):
        self._project = None
        self._recorder = None

    def execute(self, row):
        """Do what a row says, and return the answer."""
        word, *rest = _read_row(row)
        if word == "project":
            return self._start(rest)
        if self._recorder is None:
            raise InvalidCommand("there is no project yet")
        if word == "build":
            self._recorder.add_build(parse_build(self._project, rest[0]))
            return "ok"
        if word == "undo":
            self._recorder.undo()
            return "ok"
        return self._answer(word, rest) or "none"

    def _start(self, words):
        """Take a new recorder for the project whose names stand in front of and behind the slash."""
        at = words.index("/")
        project = (words[:at], words[at + 1:])
        self._recorder = Recorder(project)
        self._project = project
        return "ok"

    def _answer(self, word, names):
        """Return what a row asks for; the empty string stands for nothing."""
        if word == "explained":
            return _verdict(self._recorder.find_obstruction())
        if word == "next":
            return " ".join(self._recorder.least_reruns(names))
        log = self._recorder.builds()
        if word == "log":
            return format_log(self._project, log)
        if word == "why":
            return standing_of(self._project, log, names[0], names[1])
        if word == "above":
            return " ".join(certain_above(self._project, log, names[0]))
        return format_graph(self._project, explanation(self._project, log))


def _read_row(row):
    """Return the words of a row; the text of a build is one of them. Raise InvalidCommand for others."""
    if not isinstance(row, str) or "\n" in row:
        raise InvalidCommand("this is not a row")
    if row.startswith("build "):
        return row.split(" ", 1)
    words = row.split(" ")
    if "" in words or not _has_right_words(words):
        raise InvalidCommand("this is not a row of the console")
    return words


def _has_right_words(words):
    if words[0] == "project":
        return words.count("/") == 1
    return words[0] == "next" or WORD_COUNTS.get(words[0], 0) == len(words)


def _verdict(obstruction):
    """Return the answer to the question whether the log is explained."""
    if obstruction is None:
        return "yes"
    if obstruction[0] == "idle":
        return " ".join(map(str, obstruction))
    word, choices = obstruction
    return " ".join([word, *[f"{target}={choices[target]}" for target in choices]])
