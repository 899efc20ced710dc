"""Points 64 to 67: the recorder, beside the functions of the same names, with undo and marks."""

import copy
import random
import unittest

from tests.support import P, Wild, holders, odd_values, result_of, shown, spoil, turned
from tests.worlds import (
    DRY,
    PROJECTS,
    TRIO,
    VOID,
    big_world,
    explaining_graphs,
    graphs_of,
    pending_before,
    random_build,
    random_plans,
)
from whyreran.builds import pending_in, run_builds
from whyreran.deciding import certain_dependencies
from whyreran.errors import (
    InvalidBuild,
    InvalidMark,
    InvalidNames,
    InvalidProject,
    InvalidTarget,
    NothingToUndo,
    NotExplained,
    TooLarge,
)
from whyreran.explaining import find_obstruction, is_explained
from whyreran.next_builds import least_reruns
from whyreran.recorder import Recorder
from whyreran.tools import BuildTool

NEW = {"a": "new", "b": "new", "c": "new"}
IDLE = {"a": "idle", "b": "idle", "c": "idle"}
FIRST = (["s"], {"a": "failed", "b": "blocked", "c": "new"})
SECOND = ([], {"a": "same", "b": "new", "c": "idle"})


def recorder_of(project, log):
    recorder = Recorder(project)
    for build in log:
        recorder.add_build(build)
    return recorder


def state_of(recorder):
    return shown([
        len(recorder), recorder.builds(), recorder.pending_targets(), recorder.is_explained(),
        recorder.find_obstruction(),
    ])


class BesideTheFunctions(unittest.TestCase):
    def check_answers(self, project, recorder, log):
        self.assertEqual(recorder.builds(), log)
        self.assertEqual(len(recorder), len(log))
        self.assertEqual(recorder.pending_targets(), pending_in(project, log, len(log)))
        self.assertEqual(recorder.pending_targets(), pending_before(log, len(log)))
        self.assertIs(recorder.is_explained(), is_explained(project, log))
        self.assertEqual(recorder.find_obstruction(), find_obstruction(project, log))
        for target in project[1] + ["x"]:
            self.assertEqual(result_of(recorder.certain_dependencies, target),
                             result_of(certain_dependencies, project, log, target))
        for changed in (project[0], project[0][::-1][:1], [], ["x"], None):
            self.assertEqual(result_of(recorder.least_reruns, changed),
                             result_of(least_reruns, project, log, changed))

    def test_long_rows_of_calls(self):
        rng = random.Random(51)
        for project in PROJECTS:
            for number in range(25):
                recorder = Recorder(project)
                log, earlier, marks = [], [], []
                graph = rng.choice(graphs_of(project))
                for build in run_builds(project, graph, random_plans(rng, project, 30)):
                    kind = rng.randrange(7)
                    if kind == 0 and earlier:
                        self.assertIsNone(recorder.undo())
                        log = earlier.pop()
                    elif kind == 1:
                        self.assertEqual(recorder.set_mark(), len(marks))
                        marks.append(log)
                    elif kind == 2 and marks:
                        mark = rng.randrange(len(marks))
                        self.assertIsNone(recorder.return_to(mark))
                        earlier.append(log)
                        log = marks[mark]
                    else:
                        if rng.random() < 0.1:
                            build = random_build(rng, project)
                        self.assertIsNone(recorder.add_build(build))
                        earlier.append(log)
                        log = log + [build]
                    self.assertEqual(recorder.builds(), log)
                self.check_answers(project, recorder, log)

    def test_the_answers_are_those_of_all_graphs(self):
        rng = random.Random(52)
        for graph in graphs_of(TRIO)[::5]:
            log = run_builds(TRIO, graph, random_plans(rng, TRIO, 5))
            recorder = recorder_of(TRIO, log)
            graphs = explaining_graphs(TRIO, log)
            self.assertIs(recorder.is_explained(), True)
            for target in TRIO[1]:
                rows = [set(other[target]) for other in graphs]
                self.assertEqual(recorder.certain_dependencies(target), sorted(set.intersection(*rows)))

    def test_200_builds_and_one_more(self):
        project, _, log = big_world(11, 20, 20, 200)
        recorder = recorder_of(project, log)
        before = state_of(recorder)
        for _ in range(2):
            with self.assertRaises(TooLarge) as caught:
                recorder.add_build(log[0])
            self.assertEqual(vars(caught.exception), {"limit": 200})
            with self.assertRaises(InvalidBuild):
                recorder.add_build(None)
        self.assertEqual(state_of(recorder), before)
        self.check_answers(project, recorder, log)
        mark = recorder.set_mark()
        recorder.undo()
        recorder.return_to(mark)
        with self.assertRaises(TooLarge):
            recorder.add_build(log[0])
        recorder.undo()
        recorder.add_build(log[3])
        self.assertEqual(recorder.builds(), log[:199] + [log[3]])

    def test_140_builds_that_are_all_undone(self):
        project, _, log = big_world(12, 3, 6, 140)
        recorder = recorder_of(project, log)
        for left in range(139, -1, -1):
            self.assertIsNone(recorder.undo())
            self.assertEqual(len(recorder), left)
        self.assertEqual(recorder, Recorder(project))
        with self.assertRaises(NothingToUndo):
            recorder.undo()
        self.check_answers(project, recorder, [])


class Marks(unittest.TestCase):
    def test_marks_are_numbered_from_0_and_stay_valid(self):
        recorder = Recorder(P)
        self.assertEqual(recorder.set_mark(), 0)
        recorder.add_build(FIRST)
        self.assertEqual(recorder.set_mark(), 1)
        recorder.undo()
        self.assertEqual(recorder.set_mark(), 2)
        recorder.return_to(1)
        self.assertEqual(recorder.builds(), [FIRST])
        self.assertEqual(recorder.set_mark(), 3)
        recorder.return_to(2)
        self.assertEqual(recorder.builds(), [])
        recorder.return_to(3)
        self.assertEqual(recorder.builds(), [FIRST])

    def test_a_return_can_be_undone_and_setting_a_mark_cannot(self):
        recorder = Recorder(P)
        mark = recorder.set_mark()
        with self.assertRaises(NothingToUndo):
            recorder.undo()
        recorder.add_build(FIRST)
        recorder.add_build(SECOND)
        later = recorder.set_mark()
        recorder.return_to(mark)
        self.assertEqual(recorder.builds(), [])
        recorder.undo()
        self.assertEqual(recorder.builds(), [FIRST, SECOND])
        recorder.undo()
        self.assertEqual(recorder.builds(), [FIRST])
        recorder.return_to(later)
        recorder.return_to(later)
        self.assertEqual(recorder.builds(), [FIRST, SECOND])
        recorder.undo()
        self.assertEqual(recorder.builds(), [FIRST, SECOND])
        recorder.undo()
        self.assertEqual(recorder.builds(), [FIRST])
        recorder.undo()
        self.assertEqual(recorder.builds(), [])
        with self.assertRaises(NothingToUndo):
            recorder.undo()

    def test_a_mark_of_a_log_that_was_reverted(self):
        recorder = recorder_of(P, [FIRST, SECOND])
        mark = recorder.set_mark()
        recorder.undo()
        recorder.undo()
        recorder.add_build(([], IDLE))
        recorder.return_to(mark)
        self.assertEqual(recorder.builds(), [FIRST, SECOND])
        recorder.add_build(([], IDLE))
        recorder.return_to(mark)
        self.assertEqual(recorder.builds(), [FIRST, SECOND])

    def test_values_that_are_no_marks(self):
        recorder = Recorder(P)
        for value in odd_values() + [2, 10 ** 29]:
            with self.assertRaises(InvalidMark):
                recorder.return_to(value)
        recorder.set_mark()
        recorder.add_build(FIRST)
        recorder.set_mark()
        before = state_of(recorder)
        for value in odd_values() + [2, 3, -2, 0.0, True, False]:
            if value.__class__ is not int or value not in (0, 1):
                with self.assertRaises(InvalidMark) as caught:
                    recorder.return_to(value)
                self.assertEqual(vars(caught.exception), {})
        self.assertEqual(state_of(recorder), before)
        recorder.undo()
        self.assertEqual(recorder.builds(), [])


class Equality(unittest.TestCase):
    def test_equal_builds_whatever_was_marked_or_undone(self):
        one, two = recorder_of(P, [FIRST]), Recorder(copy.deepcopy(P))
        self.assertIs(one == two, False)
        self.assertIs(one != two, True)
        two.set_mark()
        two.add_build(SECOND)
        two.undo()
        two.add_build(turned(FIRST))
        self.assertIs(one == two, True)
        self.assertIs(one != two, False)
        one.add_build(SECOND)
        self.assertIs(one == two, False)

    def test_other_projects(self):
        recorder = Recorder(P)
        for other in (DRY, VOID, (["s"], P[1]), (P[0], ["a", "b"]), (["a", "s"], ["b", "c", "u"])):
            self.assertIs(recorder == Recorder(other), False)

    def test_a_recorder_is_not_equal_to_anything_else(self):
        recorder = Recorder(P)
        tool = BuildTool(P, {"a": [], "b": [], "c": []})
        for value in odd_values() + [tool, Recorder, P, []]:
            self.assertIs(recorder == value, False)
            self.assertIs(recorder != value, True)


class Duplicates(unittest.TestCase):
    def test_a_duplicate_goes_on_in_another_way(self):
        recorder = Recorder(P)
        mark = recorder.set_mark()
        recorder.add_build(FIRST)
        recorder.add_build(SECOND)
        other = recorder.duplicate()
        self.assertIs(other.__class__, Recorder)
        self.assertEqual(other, recorder)
        before = state_of(recorder)
        other.undo()
        other.add_build(([], IDLE))
        self.assertEqual(other.set_mark(), 1)
        other.return_to(mark)
        self.assertEqual(state_of(recorder), before)
        with self.assertRaises(InvalidMark):
            recorder.return_to(1)
        recorder.undo()
        recorder.undo()
        with self.assertRaises(NothingToUndo):
            recorder.undo()
        other.undo()
        self.assertEqual(other.builds(), [FIRST, ([], IDLE)])

    def test_the_same_calls_can_be_undone_in_a_duplicate(self):
        recorder = recorder_of(P, [FIRST])
        mark = recorder.set_mark()
        recorder.add_build(SECOND)
        recorder.return_to(mark)
        other = recorder.duplicate()
        for expected in ([FIRST, SECOND], [FIRST], []):
            other.undo()
            self.assertEqual(other.builds(), expected)
        with self.assertRaises(NothingToUndo):
            other.undo()
        self.assertEqual(recorder.builds(), [FIRST])
        recorder.undo()
        self.assertEqual(recorder.builds(), [FIRST, SECOND])


class ArgumentsAndResults(unittest.TestCase):
    def test_arguments_that_change_later_have_no_effect(self):
        project, build = copy.deepcopy(P), turned(FIRST)
        recorder = Recorder(project)
        recorder.add_build(build)
        self.assertEqual([project, shown(build)], [P, shown(turned(FIRST))])
        before = state_of(recorder)
        spoil(project)
        spoil(build)
        self.assertEqual(state_of(recorder), before)
        recorder.add_build(SECOND)
        self.assertEqual(recorder.builds(), [FIRST, SECOND])

    def test_results_that_change_later_have_no_effect(self):
        recorder = recorder_of(P, [FIRST, SECOND, (["s"], NEW), (["s"], IDLE)])
        recorder.set_mark()
        other = recorder.duplicate()
        before = state_of(recorder)
        for _ in range(2):
            for value in (recorder.builds(), recorder.pending_targets(), other.builds(),
                          recorder.find_obstruction()):
                spoil(value)
        self.assertEqual(state_of(recorder), before)
        recorder.return_to(0)
        self.assertEqual(state_of(recorder), before)
        self.assertEqual(state_of(other), before)
        explained = recorder_of(P, [FIRST, SECOND])
        for _ in range(2):
            for names in (explained.certain_dependencies("b"), explained.least_reruns(["s"])):
                self.assertGreater(len(names), 0)
                spoil(names)
        self.assertEqual(explained.certain_dependencies("b"), ["a"])
        found = [id(x) for x in holders([recorder.builds(), recorder.builds(), other.builds()])]
        self.assertEqual(len(set(found)), len(found))

    def test_returned_dicts_have_their_keys_in_ascending_order(self):
        recorder = recorder_of(P, [turned(FIRST), turned(SECOND)])
        self.assertEqual([list(statuses) for _, statuses in recorder.builds()], [P[1], P[1]])
        self.assertEqual(recorder.pending_targets(), [])


class WrongArguments(unittest.TestCase):
    def test_projects_and_builds(self):
        recorder = recorder_of(P, [FIRST])
        before = state_of(recorder)
        for value in odd_values():
            with self.assertRaises(InvalidProject):
                Recorder(value)
            with self.assertRaises(InvalidBuild) as caught:
                recorder.add_build(value)
            self.assertEqual(vars(caught.exception), {})
        for build in [(["a"], NEW), (["u", "s"], NEW), ([], dict(NEW, a=Wild())), ([], {}),
                      (["s"], dict(NEW, d="new")), [["s"], NEW], (("s",), NEW), (["s"], NEW, 0)]:
            with self.assertRaises(InvalidBuild):
                recorder.add_build(build)
        self.assertEqual(state_of(recorder), before)
        recorder.undo()
        with self.assertRaises(NothingToUndo):
            recorder.undo()

    def test_a_log_that_no_graph_explains(self):
        recorder = recorder_of(P, [(["s"], NEW), (["s"], IDLE)])
        expected = ("group", {"a": 0, "b": 0, "c": 0})
        self.assertIs(recorder.is_explained(), False)
        self.assertEqual(recorder.find_obstruction(), expected)
        for call, value in [(recorder.certain_dependencies, "a"), (recorder.least_reruns, ["u", "s"])]:
            with self.assertRaises(NotExplained) as caught:
                call(value)
            self.assertEqual(vars(caught.exception), {"obstruction": expected})
            spoil(caught.exception.obstruction)
        self.assertEqual(recorder.find_obstruction(), expected)
        recorder.undo()
        self.assertEqual(recorder.certain_dependencies("a"), [])

    def test_targets_and_names_come_before_the_log(self):
        for log in ([FIRST, SECOND], [(["s"], NEW), (["s"], IDLE)]):
            recorder = recorder_of(P, log)
            before = state_of(recorder)
            for value in odd_values() + ["d", "u"]:
                if not isinstance(value, str) or value not in P[1]:
                    with self.assertRaises(InvalidTarget):
                        recorder.certain_dependencies(value)
                if not isinstance(value, list) or value:
                    with self.assertRaises(InvalidNames):
                        recorder.least_reruns(value)
            self.assertEqual(state_of(recorder), before)

    def test_arguments_may_be_given_by_their_names(self):
        recorder = Recorder(project=P)
        recorder.add_build(build=FIRST)
        recorder.return_to(mark=recorder.set_mark())
        self.assertEqual(recorder.certain_dependencies(target="b"), ["a"])
        self.assertEqual(recorder.least_reruns(changed=["u"]), ["a", "b"])


if __name__ == "__main__":
    unittest.main()
