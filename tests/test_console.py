"""Points 71 to 73: the console, beside the recorder and the functions, and rows that are wrong."""

import random
import unittest

from tests.support import odd_values, result_of
from tests.worlds import (
    PROJECTS,
    big_world,
    graphs_of,
    random_build,
    random_plans,
)
from whyreran.avoiding import certain_above
from whyreran.builds import run_builds
from whyreran.console import Console
from whyreran.deciding import standing_of
from whyreran.errors import (
    InvalidCommand,
    InvalidName,
    InvalidNames,
    InvalidProject,
    InvalidTarget,
    InvalidText,
    NothingToUndo,
    NotExplained,
    RerunError,
    TooLarge,
)
from whyreran.explaining import explanation, find_obstruction
from whyreran.next_builds import least_reruns
from whyreran.recorder import Recorder
from whyreran.texts import format_build, format_graph, format_log
from whyreran.tools import BuildTool

START = ["project s u / a b c", "build s | a=failed b=blocked c=new", "build - | a=same b=new c=idle"]
UNEXPLAINED = ["project s / a b", "build s | a=new b=new", "build s | a=idle b=idle"]
QUESTIONS = ["log", "explained", "graph", "next", "next s", "why a s", "why b a", "above b"]


def console_of(*rows):
    console = Console()
    for row in rows:
        console.execute(row)
    return console


def state_of(console):
    return [result_of(console.execute, row) for row in QUESTIONS]


def project_row(project):
    return " ".join(["project"] + project[0] + ["/"] + project[1])


def joined(names):
    return " ".join(names) or "none"


def verdict(obstruction):
    if obstruction is None:
        return "yes"
    if obstruction[0] == "idle":
        return "idle %d %s" % obstruction[1:]
    return "group " + " ".join("%s=%d" % pair for pair in sorted(obstruction[1].items()))


class BesideTheRecorder(unittest.TestCase):
    def check_answers(self, console, project, recorder):
        log = recorder.builds()
        answer = console.execute
        self.assertEqual(answer("log"), format_log(project, log) or "none")
        self.assertEqual(answer("explained"), verdict(find_obstruction(project, log)))
        self.assertEqual(result_of(answer, "graph"),
                         result_of(lambda: format_graph(project, explanation(project, log)) or "none"))
        names = project[0] + project[1] + ["x"]
        for target in names:
            self.assertEqual(result_of(answer, "above " + target),
                             result_of(lambda: joined(certain_above(project, log, target))))
            for name in names:
                self.assertEqual(result_of(answer, "why %s %s" % (target, name)),
                                 result_of(standing_of, project, log, target, name))
        for changed in ([], project[0], project[0][::-1], ["x"], names[:1] * 2, project[1][:1]):
            self.assertEqual(result_of(answer, " ".join(["next"] + changed)),
                             result_of(lambda: joined(least_reruns(project, log, changed))))

    def test_long_rows_of_calls(self):
        rng = random.Random(71)
        console = Console()
        for number in range(120):
            project = rng.choice(PROJECTS)
            self.assertEqual(console.execute(project_row(project)), "ok")
            recorder = Recorder(project)
            graph = rng.choice(graphs_of(project))
            for build in run_builds(project, graph, random_plans(rng, project, rng.randrange(12))):
                if rng.random() < 0.1:
                    build = random_build(rng, project)
                if rng.random() < 0.3:
                    self.assertEqual(result_of(console.execute, "undo") == "'ok'", len(recorder) > 0)
                    if len(recorder):
                        recorder.undo()
                else:
                    self.assertEqual(console.execute("build " + format_build(project, build)), "ok")
                    recorder.add_build(build)
            self.check_answers(console, project, recorder)

    def test_beside_a_build_tool(self):
        project, graph, _ = big_world(15, 4, 6, 1)
        tool = BuildTool(project, graph)
        console = console_of(project_row(project))
        for plan in random_plans(random.Random(15), project, 60):
            tool.run(*plan)
            console.execute("build " + format_build(project, tool.history()[-1]))
            self.assertEqual(console.execute("explained"), "yes")
        self.assertEqual(console.execute("log"), format_log(project, tool.history()))
        for _ in range(60):
            tool.undo()
            self.assertEqual(console.execute("undo"), "ok")
            self.assertEqual(console.execute("log"), format_log(project, tool.history()) or "none")
        with self.assertRaises(NothingToUndo):
            console.execute("undo")

    def test_200_builds_and_one_more(self):
        project, _, log = big_world(16, 20, 20, 200)
        console = console_of(project_row(project))
        for build in log:
            self.assertEqual(console.execute("build " + format_build(project, build)), "ok")
        row = "build " + format_build(project, log[0])
        before = [console.execute("log"), console.execute("graph")]
        with self.assertRaises(TooLarge) as caught:
            console.execute(row)
        self.assertEqual(vars(caught.exception), {"limit": 200})
        with self.assertRaises(InvalidText):
            console.execute(row + " ")
        self.assertEqual([console.execute("log"), console.execute("graph")], before)
        self.assertEqual(before[0], format_log(project, log))
        console.execute("undo")
        self.assertEqual(console.execute(row), "ok")


class Answers(unittest.TestCase):
    def test_the_log_of_the_document(self):
        console = console_of(*START)
        expected = {
            "log": "s | a=failed b=blocked c=new\n- | a=same b=new c=idle", "explained": "yes",
            "why b a": "certain", "why a b": "impossible", "why a c": "open", "above b": "a s",
            "above c": "s", "next u": "none", "next s": "a b c", "next u s": "a b c", "next": "none",
            "graph": "a: s u\nb: a s u\nc: s u",
        }
        for row, answer in expected.items():
            self.assertEqual(console.execute(row), answer, row)
        console.execute("undo")
        self.assertEqual(console.execute("next"), "a b")

    def test_obstructions(self):
        console = console_of(*UNEXPLAINED)
        self.assertEqual(console.execute("explained"), "group a=0 b=0")
        console = console_of("project s / a b", "build s | a=failed b=new", "build - | a=idle b=idle")
        self.assertEqual(console.execute("explained"), "idle 1 a")
        console.execute("undo")
        self.assertEqual(console.execute("explained"), "yes")

    def test_none(self):
        console = console_of("project /")
        rows = ["log", "graph", "next", "explained"]
        self.assertEqual([console.execute(row) for row in rows], ["none", "none", "none", "yes"])
        console.execute("build - | -")
        self.assertEqual([console.execute(row) for row in rows], ["- | -", "none", "none", "yes"])
        console = console_of("project s / a")
        rows = ["log", "above a", "next s", "graph"]
        self.assertEqual([console.execute(row) for row in rows], ["none", "none", "none", "a: s"])
        console = console_of("project / a")
        self.assertEqual([console.execute(row) for row in rows[:2] + ["graph"]], ["none", "none", "a:"])
        console = console_of("project s u /")
        self.assertEqual([console.execute(row) for row in ("next u", "graph")], ["none", "none"])

    def test_a_new_project_in_place_of_the_one_before(self):
        console = console_of(*START)
        self.assertEqual(console.execute("project s / a"), "ok")
        self.assertEqual(console.execute("log"), "none")
        with self.assertRaises(NothingToUndo):
            console.execute("undo")
        with self.assertRaises(InvalidTarget):
            console.execute("above b")
        console.execute("build s | a=new")
        self.assertEqual(console.execute("project s / a"), "ok")
        self.assertEqual(console.execute("log"), "none")

    def test_two_consoles_are_independent(self):
        one, two = console_of(*START), console_of(*START)
        one.execute("undo")
        self.assertEqual(state_of(two), state_of(console_of(*START)))
        one.execute("project s / a")
        self.assertEqual(two.execute("above b"), "a s")
        with self.assertRaises(InvalidCommand):
            Console().execute("log")

    def test_the_argument_may_be_given_by_its_name(self):
        self.assertEqual(Console().execute(row="project /"), "ok")


class WrongRows(unittest.TestCase):
    def check(self, console, row, error, field=None):
        before = state_of(console)
        with self.assertRaises(RerunError) as caught:
            console.execute(row)
        self.assertIs(caught.exception.__class__, error, repr(row))
        if field is not None:
            self.assertEqual(vars(caught.exception), field, repr(row))
        else:
            self.assertEqual(vars(caught.exception), {}, repr(row))
        self.assertEqual(state_of(console), before, repr(row))

    def test_rows_of_no_form(self):
        rows = [
            "", " ", "  ", "x", "Log", "log ", " log", "log  ", "log a", "undo a", "undo ", "explained a",
            "graph a", "why", "why a", "why a s s", "why  a s", "why a  s", "why a s ", "why a ", "above",
            "above a b", "above ", "above  a", "next ", "next  s", "next s  u", "next s ", "project",
            "project s", "project s a", "project s / a / b", "project / /", "project s / a /", "project  s / a",
            "project s  / a", "project s / a ", " project s / a", "project s /  a", "project s/a", "project ",
            "project / ", "build", "Build s | a=new", "builds", "build\n", "build s | a=new b=new c=new\n",
            "build \n", "log\n", "\nlog", "undo\n", "next s\nu", "project s\n/ a", "log\tx", "\tlog", "/",
            "project\ts / a", "-", "none", "ok", "why\ta\ts", "history", "nextt s", "project s u / a b c\n",
        ]
        for console in (console_of(*START), console_of(*UNEXPLAINED), Console()):
            for row in rows:
                self.check(console, row, InvalidCommand)

    def test_values_that_are_no_rows(self):
        for console in (console_of(*START), Console()):
            for value in odd_values() + [["log"], b"log", ("log",), {"log": 1}]:
                self.check(console, value, InvalidCommand)

    def test_rows_without_a_project(self):
        console = Console()
        for row in QUESTIONS + ["undo", "build s | a=new", "build ", "build x", "why x x", "next x x"]:
            self.check(console, row, InvalidCommand)
        self.check(console, "project s s / a", InvalidProject)
        for row in QUESTIONS + ["undo", "build - | -"]:
            self.check(console, row, InvalidCommand)
        self.assertEqual(console.execute("project /"), "ok")
        self.assertEqual(console.execute("build - | -"), "ok")

    def test_names_that_make_no_project(self):
        rows = [
            "project u s / a", "project s / b a", "project s s / a", "project s / a a", "project s / s",
            "project S / a", "project s / 1a", "project s,u / a", "project s / " + "a" * 13, "project s // a /",
            "project - / a", "project s / -", "project " + " ".join("s%02d" % k for k in range(41)) + " /",
            "project / " + " ".join("t%02d" % k for k in range(21)),
        ]
        for row in rows:
            self.check(console_of(*START), row, InvalidProject)
        self.assertEqual(Console().execute("project / " + " ".join("t%02d" % k for k in range(20))), "ok")
        self.assertEqual(Console().execute("project " + " ".join("s%02d" % k for k in range(40)) + " /"), "ok")

    def test_texts_of_builds(self):
        for text in ["", " ", "s", "- | -", "s | a=new b=new", " s | a=new b=new c=new",
                     "s | a=new b=new c=new ", "s  | a=new b=new c=new", "u s | a=new b=new c=new",
                     "s | a=new b=new  c=new", "x", "build s | a=new b=new c=new", "s | a=new b=new c=old"]:
            for console in (console_of(*START), console_of("project s u / a b c")):
                self.check(console, "build " + text, InvalidText, {"position": 0})
        self.assertEqual(console_of(*START).execute("build s | a=new b=new c=new"), "ok")

    def test_nothing_to_undo(self):
        console = console_of("project s / a")
        self.check(console, "undo", NothingToUndo)
        console.execute("build s | a=new")
        self.assertEqual(console.execute("undo"), "ok")
        self.check(console, "undo", NothingToUndo)

    def test_targets_and_names(self):
        for console in (console_of(*START), console_of(*UNEXPLAINED)):
            self.check(console, "why s s", InvalidTarget)
            self.check(console, "why x x", InvalidTarget)
            self.check(console, "why a a", InvalidName)
            self.check(console, "why a x", InvalidName)
            self.check(console, "why a /", InvalidName)
            self.check(console, "above s", InvalidTarget)
            self.check(console, "above -", InvalidTarget)
            self.check(console, "next a", InvalidNames)
            self.check(console, "next s s", InvalidNames)
            self.check(console, "next x", InvalidNames)

    def test_a_log_that_no_graph_explains(self):
        console = console_of(*UNEXPLAINED)
        for row in ("why a s", "above b", "next", "next s", "graph"):
            self.check(console, row, NotExplained, {"obstruction": ("group", {"a": 0, "b": 0})})
        self.assertEqual(console.execute("log"), "s | a=new b=new\ns | a=idle b=idle")
        console.execute("undo")
        self.assertEqual(console.execute("above b"), "s")


if __name__ == "__main__":
    unittest.main()
