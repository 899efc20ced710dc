"""Points 68 to 70: graphs, builds and logs as texts, read back exactly as they are written."""

import copy
import random
import unittest
from itertools import product

from tests.support import G, L, P, STATUSES, all_builds, odd_values, shown, spoil, turned
from tests.worlds import (
    BARE,
    DRY,
    ONE,
    PAIR,
    PROJECTS,
    TRIO,
    VOID,
    big_world,
    dense_world,
    graphs_of,
    mixed_logs,
)
from whyreran.errors import InvalidBuild, InvalidGraph, InvalidLog, InvalidProject, InvalidText
from whyreran.projects import is_build, is_graph, is_log
from whyreran.texts import (
    format_build,
    format_graph,
    format_log,
    parse_build,
    parse_graph,
    parse_log,
)

GRAPH_TEXT = "a: s\nb: a u\nc: b"
BUILD = (["s", "u"], {"a": "new", "b": "same", "c": "idle"})
BUILD_TEXT = "s u | a=new b=same c=idle"
SIGNS = [" ", "\n", ":", "=", "|", "-", "a", "b", "s", "u", "x", "new", "same", "\t", "\r", "", "/"]


class NoString:
    """An object that is like a string, but is none."""

    def split(self, sign):
        return ["a: s", "b: a u", "c: b"]

    def __str__(self):
        return GRAPH_TEXT


def position_of(function, project, text):
    """Return the position of InvalidText, or "read" if the text is read."""
    try:
        function(project, text)
    except InvalidText as error:
        assert vars(error) == {"position": error.position}
        return error.position
    return "read"


def changed_texts(text):
    """Return texts that differ from a text in one place, or are a part of it."""
    found = [text[:at] + sign + text[at + cut:] for at in range(len(text) + 1)
             for cut in (0, 1, 2) for sign in SIGNS]
    found += [text[:at] for at in range(len(text))] + [text[at:] for at in range(len(text))]
    words = text.split(" ")
    found += [" ".join(words[:at] + words[at + 1:]) for at in range(len(words))]
    found += [" ".join(words[:at] + [words[at]] + words[at:]) for at in range(len(words))]
    found += [" ".join(words[:at] + words[at:at + 2][::-1] + words[at + 2:]) for at in range(len(words))]
    return sorted(set(found) - {text})


def graph_position(project, text):
    """Return the position that point 68 gives a text, or "read"."""
    lines = text.split("\n") if text else []
    graph = {}
    for number, line in enumerate(lines):
        if number >= len(project[1]):
            return number
        target = project[1][number]
        names = line.split(" ")[1:]
        known = sorted(project[0] + project[1])
        if line != " ".join([target + ":"] + [x for x in known if x in names]):
            return number
        graph[target] = names
        # The targets of the lines so far, of which each has a dependency among them, have a cycle.
        left = list(graph)
        while [t for t in left if not set(graph[t]) & set(left)]:
            left = [t for t in left if set(graph[t]) & set(left)]
        if left:
            return number
    return "read" if len(graph) == len(project[1]) else None


class Graphs(unittest.TestCase):
    def test_all_graphs_are_read_back(self):
        for project in PROJECTS:
            for graph in graphs_of(project):
                text = format_graph(project, graph)
                lines = [" ".join([t + ":"] + sorted(graph[t])) for t in project[1]]
                self.assertEqual(text, "\n".join(lines))
                found = parse_graph(project, text)
                self.assertEqual(shown(found), shown({t: graph[t] for t in project[1]}))

    def test_all_short_texts(self):
        lines = ["a:", "a: s", "a: b", "a: a", "a: b s", "a: s b", "b:", "b: a", "b: s", "b: a s", "", "a: ",
                 " a:", "a", "a:s", "a : s", "a: s s", "b: b", "b: x", "A:", ":", "-", "a: -"]
        for count in (1, 2, 3):
            for row in product(lines, repeat=count) if count < 3 else product(lines[:7], repeat=3):
                text = "\n".join(row)
                expected = graph_position(PAIR, text)
                self.assertEqual(position_of(parse_graph, PAIR, text), expected, repr(text))

    def test_texts_that_differ_in_one_place(self):
        seen = set()
        for text in changed_texts(GRAPH_TEXT):
            expected = graph_position(P, text)
            seen.add(expected)
            self.assertEqual(position_of(parse_graph, P, text), expected, repr(text))
            if expected == "read":
                self.assertEqual(format_graph(P, parse_graph(P, text)), text)
        self.assertEqual(seen, {0, 1, 2, 3, None, "read"})

    def test_the_empty_string_has_no_lines(self):
        self.assertEqual(parse_graph(DRY, ""), {})
        self.assertEqual(parse_graph(VOID, ""), {})
        self.assertEqual([format_graph(DRY, {}), format_graph(VOID, {})], ["", ""])
        self.assertIsNone(position_of(parse_graph, ONE, ""))
        self.assertEqual(position_of(parse_graph, DRY, "\n"), 0)
        self.assertEqual(position_of(parse_graph, DRY, " "), 0)
        self.assertEqual(position_of(parse_graph, DRY, "s:"), 0)

    def test_lines_that_are_missing_or_too_many(self):
        lines = GRAPH_TEXT.split("\n")
        for count in range(3):
            self.assertIsNone(position_of(parse_graph, P, "\n".join(lines[:count])))
        self.assertEqual(position_of(parse_graph, P, GRAPH_TEXT + "\n"), 3)
        self.assertEqual(position_of(parse_graph, P, GRAPH_TEXT + "\nd: s"), 3)
        self.assertEqual(position_of(parse_graph, P, "\n" + GRAPH_TEXT), 0)
        self.assertEqual(position_of(parse_graph, P, "a: s\n"), 1)
        self.assertEqual(position_of(parse_graph, P, "a: s\n\nc: b"), 1)
        self.assertEqual(position_of(parse_graph, P, "a: s\nc: b"), 1)

    def test_the_first_line_with_which_there_is_a_cycle(self):
        self.assertEqual(position_of(parse_graph, P, "a: a\nb:\nc:"), 0)
        self.assertEqual(position_of(parse_graph, P, "a: c\nb: a\nc: b"), 2)
        self.assertEqual(position_of(parse_graph, P, "a: c\nb: c\nc: a"), 2)
        self.assertEqual(position_of(parse_graph, P, "a: b\nb: a\nx"), 1)
        self.assertEqual(position_of(parse_graph, P, "a: b\nx\nc: a"), 1)
        self.assertEqual(position_of(parse_graph, P, "a: b\nb: c"), None)
        self.assertEqual(position_of(parse_graph, P, "a: b c\nb: c\nc:"), "read")

    def test_the_largest_graph(self):
        project, graph = dense_world(20, 20)
        text = format_graph(project, graph)
        self.assertGreater(len(text), 2000)
        self.assertEqual(parse_graph(project, text), graph)
        self.assertEqual(position_of(parse_graph, project, text + " t19"), 19)
        self.assertEqual(position_of(parse_graph, project, text + "\n"), 20)


class Builds(unittest.TestCase):
    def test_all_builds_are_read_back(self):
        for project in (ONE, PAIR, BARE, DRY, VOID, TRIO):
            texts = set()
            for build in all_builds(project):
                text = format_build(project, turned(build))
                texts.add(text)
                self.assertEqual(shown(parse_build(project, text)), shown(build))
            self.assertEqual(len(texts), len(all_builds(project)))

    def test_the_strings(self):
        self.assertEqual(format_build(P, BUILD), BUILD_TEXT)
        self.assertEqual(format_build(P, ([], BUILD[1])), "- | a=new b=same c=idle")
        self.assertEqual(format_build(DRY, (["u"], {})), "u | -")
        self.assertEqual(format_build(VOID, ([], {})), "- | -")
        self.assertEqual(parse_build(VOID, "- | -"), ([], {}))
        for status in STATUSES:
            self.assertEqual(format_build(ONE, ([], {"a": status})), "- | a=" + status)

    def test_texts_that_differ_in_one_place(self):
        for project, text in [(P, BUILD_TEXT), (ONE, "- | a=new"), (DRY, "s | -"), (VOID, "- | -")]:
            right = {format_build(project, build) for build in all_builds(project)}
            for other in changed_texts(text):
                expected = "read" if other in right else 0
                self.assertEqual(position_of(parse_build, project, other), expected, repr(other))

    def test_texts_that_are_no_builds(self):
        wrong = [
            "", "|", " | ", "-", "- |", "- | ", "| a=new", " | a=new", "s | a=new ", " s | a=new",
            "s  | a=new", "s |  a=new", "s s | a=new", "s|a=new", "s | a=New", "s | a=", "s | a",
            "s | a=new a=new", "s | a=new a=same", "s | b=new", "s | s=new", "a | a=new", "x | a=new",
            "s | a=new\n", "\ns | a=new", "s | a=new\n- | a=idle", "s | a=new | -", "s | a:new", "s - | a=new",
            "- s | a=new", "s | - a=new", "s | -", "s\t| a=new", "S | a=new", "s | a==new", "s | a=new=new",
            "(['s'], {'a': 'new'})", "s | a= new", "s | a =new", "-  | a=new", "s | a=new\r", "s, | a=new",
        ]
        for text in wrong:
            self.assertEqual(position_of(parse_build, ONE, text), 0, repr(text))
        self.assertEqual(position_of(parse_build, ONE, "s | a=new"), "read")
        for text in ("u s | a=new b=new c=new", "s | b=new a=new c=new", "s | a=new c=new",
                     "s | a=new b=new c=new d=new", "s u | a=new b=new"):
            self.assertEqual(position_of(parse_build, P, text), 0, repr(text))


class Logs(unittest.TestCase):
    def test_logs_are_read_back(self):
        for project, log in mixed_logs():
            text = format_log(project, log)
            self.assertEqual(text, "\n".join(format_build(project, build) for build in log))
            self.assertEqual(parse_log(project, text), log)

    def test_the_empty_log(self):
        for project in PROJECTS:
            self.assertEqual(format_log(project, []), "")
            self.assertEqual(parse_log(project, ""), [])
            self.assertEqual(position_of(parse_log, project, "\n"), 0)

    def test_the_first_line_that_is_no_build(self):
        lines = format_log(P, L).split("\n")
        self.assertEqual(len(lines), 3)
        for at in range(3):
            for wrong in ("", " ", lines[at] + " ", "-", lines[at].replace("=", ":"), "| " + lines[at]):
                text = "\n".join(lines[:at] + [wrong] + lines[at + 1:])
                self.assertEqual(position_of(parse_log, P, text), at, repr(text))
                self.assertEqual(position_of(parse_log, P, text + "\n"), at)
        self.assertEqual(position_of(parse_log, P, "\n".join(lines) + "\n"), 3)
        self.assertEqual(position_of(parse_log, P, "\n" + "\n".join(lines)), 0)
        self.assertEqual(position_of(parse_log, P, "\r\n".join(lines)), 0)
        self.assertEqual(position_of(parse_log, P, "\n".join(lines * 2)), "read")

    def test_texts_that_differ_in_one_place(self):
        text = "s | a=new\n- | a=idle"
        right = {format_build(ONE, build) for build in all_builds(ONE)}
        for other in changed_texts(text):
            lines = other.split("\n") if other else []
            wrong = [at for at, line in enumerate(lines) if line not in right]
            expected = min(wrong) if wrong else "read"
            self.assertEqual(position_of(parse_log, ONE, other), expected, repr(other))
            if expected == "read":
                self.assertEqual(format_log(ONE, parse_log(ONE, other)), other)

    def test_200_lines_and_more(self):
        line = "s | a=new"
        self.assertEqual(len(parse_log(ONE, "\n".join([line] * 200))), 200)
        for more in ([line], ["x"], [""], [line] * 50, ["", line, ""]):
            self.assertEqual(position_of(parse_log, ONE, "\n".join([line] * 200 + more)), 200)
        for at in (0, 150, 199):
            lines = [line] * 230
            lines[at] = "x"
            self.assertEqual(position_of(parse_log, ONE, "\n".join(lines)), at)
        project, _, log = big_world(14, 20, 20, 200)
        text = format_log(project, log)
        self.assertGreater(len(text), 40000)
        self.assertEqual(parse_log(project, text), log)
        self.assertEqual(position_of(parse_log, project, text + "\n" + text), 200)


class AnyText(unittest.TestCase):
    def test_random_texts(self):
        rng = random.Random(61)
        parts = ["a", "b", "s", "u", "c", ":", " ", "=", "|", "-", "\n", "new", "idle", " | ", ": ", "a=new"]
        for _ in range(4000):
            text = "".join(rng.choice(parts) for _ in range(rng.randrange(12)))
            for project in (ONE, PAIR, DRY, VOID):
                for parse, form, is_right in [(parse_graph, format_graph, is_graph),
                                              (parse_build, format_build, is_build),
                                              (parse_log, format_log, is_log)]:
                    if position_of(parse, project, text) == "read":
                        value = parse(project, text)
                        self.assertTrue(is_right(project, value))
                        self.assertEqual(form(project, value), text)

    def test_values_that_are_no_strings(self):
        for value in odd_values() + [NoString(), [GRAPH_TEXT], b"- | -", GRAPH_TEXT.split("\n")]:
            if not isinstance(value, str):
                for function in (parse_graph, parse_build, parse_log):
                    for project in (P, VOID):
                        self.assertIsNone(position_of(function, project, value))

    def test_the_order_of_the_errors(self):
        for value in odd_values():
            for function in (parse_graph, parse_build, parse_log, format_graph, format_build, format_log):
                with self.assertRaises(InvalidProject):
                    function(value, None)
            with self.assertRaises(InvalidGraph):
                format_graph(P, value)
            with self.assertRaises(InvalidBuild):
                format_build(P, value)
            if not isinstance(value, list) or value:
                with self.assertRaises(InvalidLog):
                    format_log(P, value)
        with self.assertRaises(InvalidGraph):
            format_graph(P, {"a": ["b"], "b": ["a"], "c": []})
        with self.assertRaises(InvalidLog):
            format_log(P, L * 67)


class ArgumentsAndResults(unittest.TestCase):
    def test_a_changed_result_has_no_effect_on_later_results(self):
        for function, text in [(parse_graph, GRAPH_TEXT), (parse_build, BUILD_TEXT),
                               (parse_log, BUILD_TEXT + "\n" + BUILD_TEXT)]:
            first = function(P, text)
            expected = shown(first)
            spoil(first)
            self.assertEqual(shown(function(P, text)), expected)

    def test_arguments_are_unchanged_and_their_order_does_not_matter(self):
        for function, value in [(format_graph, G), (format_build, BUILD), (format_log, L)]:
            given = [turned(P), turned(value)]
            before = shown(given)
            self.assertEqual(function(*given), function(copy.deepcopy(P), value))
            self.assertEqual(shown(given), before)
        project = copy.deepcopy(P)
        parse_graph(project, GRAPH_TEXT)["a"].append("u")
        parse_build(project, BUILD_TEXT)[0].append("v")
        self.assertEqual(project, P)

    def test_arguments_may_be_given_by_their_names(self):
        self.assertEqual(format_graph(project=P, graph=G), GRAPH_TEXT)
        self.assertEqual(parse_graph(project=P, text=GRAPH_TEXT), G)
        self.assertEqual(format_build(project=P, build=BUILD), BUILD_TEXT)
        self.assertEqual(parse_build(project=P, text=BUILD_TEXT), BUILD)
        self.assertEqual(format_log(project=P, log=[BUILD]), BUILD_TEXT)
        self.assertEqual(parse_log(project=P, text=BUILD_TEXT), [BUILD])


if __name__ == "__main__":
    unittest.main()
