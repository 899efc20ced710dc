"""Graphs, builds and logs as texts, and back."""

from whyreran.checks import check_build, check_graph, check_log, check_project
from whyreran.errors import InvalidText
from whyreran.forms import MOST_BUILDS, graph_links, has_build_form

NOTHING = "-"


def format_graph(project, graph):
    """Return the text of a graph: a line for each target with its dependencies."""
    check_project(project)
    check_graph(project, graph)
    return "\n".join([" ".join([f"{target}:", *graph[target]]) for target in project[1]])


def parse_graph(project, text):
    """Return the graph with this text."""
    check_project(project)
    targets = project[1]
    lines = _lines_of(text)
    graph = {target: [] for target in targets}
    for position, line in enumerate(lines):
        if position == len(targets):
            raise InvalidText(position)
        head, *names = line.split(" ")
        target = targets[position]
        graph[target] = names
        # Targets without a line so far have no dependencies, and so cannot be on a cycle.
        if head != f"{target}:" or graph_links(project, graph) is None:
            raise InvalidText(position)
    if len(lines) < len(targets):
        raise InvalidText(None)
    return graph


def format_build(project, build):
    """Return the text of a build: its changed sources and the status of each target."""
    check_project(project)
    check_build(project, build)
    return _build_text(build)


def parse_build(project, text):
    """Return the build with this text."""
    check_project(project)
    _check_string(text)
    return _read_build(project, text, 0)


def format_log(project, log):
    """Return the text of a log: a line for each build."""
    check_project(project)
    check_log(project, log)
    return "\n".join([_build_text(build) for build in log])


def parse_log(project, text):
    """Return the log with this text."""
    check_project(project)
    lines = _lines_of(text)
    log = []
    for position, line in enumerate(lines):
        if position == MOST_BUILDS:
            raise InvalidText(position)
        log.append(_read_build(project, line, position))
    return log


def _check_string(text):
    """Raise InvalidText unless the value is a string."""
    if not isinstance(text, str):
        raise InvalidText(None)


def _lines_of(text):
    """Return the lines of a text. Raise InvalidText unless the value is a string."""
    _check_string(text)
    return text.split("\n") if text else []


def _build_text(build):
    changed, statuses = build
    words = [f"{target}={statuses[target]}" for target in sorted(statuses)]
    return f"{_row_of(changed)} | {_row_of(words)}"


def _row_of(words):
    return " ".join(words) if words else NOTHING


def _read_build(project, line, position):
    """Return the build with this string. Raise InvalidText with the position if there is none."""
    changed, _, statuses = line.partition(" | ")
    pairs = [word.partition("=") for word in _words_of(statuses)]
    build = (_words_of(changed), {pair[0]: pair[2] for pair in pairs})
    # Other strings could be read in the same way, so it has to be the very string of the build.
    if not has_build_form(project, build) or _build_text(build) != line:
        raise InvalidText(position)
    return build


def _words_of(row):
    return [] if row == NOTHING else row.split(" ")
