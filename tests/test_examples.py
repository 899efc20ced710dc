"""The examples of the document, word for word, by the number of their point."""

import contextlib
import doctest
import io
import unittest

from whyreran.errors import RerunError

EXAMPLES = {
    13: """
>>> from whyreran.projects import is_name
>>> is_name("9lives")
False

>>> from whyreran.projects import is_project
>>> is_project((["s", "u"], ["a", "b", "c"]))
True

>>> from whyreran.projects import is_graph
>>> p = (["s"], ["a", "b"])
>>> is_graph(p, {"a": ["b"], "b": ["a"]})
False

>>> from whyreran.projects import is_build
>>> p = (["s"], ["a", "b"])
>>> is_build(p, (["s"], {"a": "new", "b": "blocked"}))
True

>>> from whyreran.projects import is_log
>>> p = (["s"], ["a", "b"])
>>> is_log(p, [(["a"], {"a": "new", "b": "idle"})])
False
""",
    14: """
>>> from whyreran.projects import names_of
>>> names_of((["s", "u"], ["a", "t"]))
['a', 's', 't', 'u']

>>> from whyreran.projects import names_above
>>> p = (["s", "u"], ["a", "b", "c"])
>>> g = {"a": ["s"], "b": ["a", "u"], "c": ["b"]}
>>> names_above(p, g, "c")
['a', 'b', 's', 'u']

>>> from whyreran.projects import targets_below
>>> p = (["s", "u"], ["a", "b", "c"])
>>> g = {"a": ["s"], "b": ["a", "u"], "c": ["b"]}
>>> targets_below(p, g, "u")
['b', 'c']
""",
    15: """
>>> from whyreran.projects import cycle_in
>>> p = (["s"], ["a", "b"])
>>> [cycle_in(p, {"a": ["b"], "b": ["s"]}), cycle_in(p, {"a": ["a", "s"], "b": ["a"]})]
[None, ['a']]
""",
    16: """
>>> from whyreran.projects import target_order
>>> p = (["s"], ["a", "b", "c"])
>>> target_order(p, {"a": ["c"], "b": [], "c": ["s"]})
['b', 'c', 'a']
""",
    17: """
>>> from whyreran.builds import run_build
>>> P = (["s", "u"], ["a", "b", "c"])
>>> G = {"a": ["s"], "b": ["a"], "c": ["s"]}
>>> run_build(P, G, [], ["s"], {"a": "failed", "b": "new", "c": "new"})
{'a': 'failed', 'b': 'blocked', 'c': 'new'}
""",
    18: """
>>> from whyreran.builds import run_builds
>>> P = (["s", "u"], ["a", "b", "c"])
>>> G = {"a": ["s"], "b": ["a"], "c": ["s"]}
>>> first = (["s"], {"a": "failed", "b": "new", "c": "new"})
>>> second = ([], {"a": "same", "b": "new", "c": "new"})
>>> run_builds(P, G, [first, second])[1]
([], {'a': 'same', 'b': 'new', 'c': 'idle'})
""",
    19: """
>>> from whyreran.builds import pending_in
>>> P = (["s"], ["a", "b"])
>>> log = [(["s"], {"a": "failed", "b": "blocked"})]
>>> [pending_in(P, log, 0), pending_in(P, log, 1)]
[[], ['a', 'b']]
""",
    20: """
>>> from whyreran.builds import explains, first_mismatch
>>> P = (["s"], ["a", "b"])
>>> log = [(["s"], {"a": "failed", "b": "blocked"})]
>>> G, H = {"a": ["s"], "b": ["a"]}, {"a": ["s"], "b": ["s"]}
>>> [explains(P, G, log), first_mismatch(P, G, log), first_mismatch(P, H, log)]
[True, None, (0, 'b', 'runs')]
""",
    21: """
>>> from whyreran.builds import cause_of, run_builds
>>> P = (["s", "u"], ["a", "b", "c"])
>>> G = {"a": ["s"], "b": ["a"], "c": ["s"]}
>>> first = (["s"], {"a": "failed", "b": "new", "c": "new"})
>>> L = run_builds(P, G, [first, ([], {"a": "same", "b": "new", "c": "new"})])
>>> [cause_of(P, G, L, 0, "c"), cause_of(P, G, L, 0, "b"), cause_of(P, G, L, 1, "b"), cause_of(P, G, L, 1, "c")]
[['s', 'c'], ['a', 'b'], ['b'], None]
""",
    22: """
>>> from whyreran.facts import exclusion
>>> p = (["s"], ["a", "b", "c"])
>>> z = [(["s"], {"a": "new", "b": "idle", "c": "failed"}), ([], {"a": "idle", "b": "idle", "c": "same"})]
>>> [exclusion(p, z, "b", "s"), exclusion(p, z, "b", "c"), exclusion(p, z, "c", "s")]
[(0, 'changed'), (0, 'broken'), None]
""",
    23: """
>>> from whyreran.facts import permitted_names
>>> p = (["s", "u"], ["a", "b", "c"])
>>> z = [(["s"], {"a": "failed", "b": "blocked", "c": "new"}), ([], {"a": "same", "b": "new", "c": "idle"})]
>>> [permitted_names(p, z, target) for target in ["a", "b", "c"]]
[['c', 's', 'u'], ['a', 'c', 's', 'u'], ['s', 'u']]
""",
    24: """
>>> from whyreran.facts import needs_of
>>> p = (["s", "u"], ["a", "b", "c"])
>>> z = [(["s"], {"a": "failed", "b": "blocked", "c": "new"}), ([], {"a": "same", "b": "new", "c": "idle"})]
>>> [needs_of(p, z, target) for target in ["a", "b", "c"]]
[[(0, ['c', 's'])], [(0, ['a'])], [(0, ['s'])]]
""",
    25: """
>>> from whyreran.facts import closure_without
>>> p = (["s", "u"], ["a", "b", "c"])
>>> z = [(["s"], {"a": "failed", "b": "blocked", "c": "new"}), ([], {"a": "same", "b": "new", "c": "idle"})]
>>> [closure_without(p, z, names) for names in [[], ["u"], ["a"], ["s"]]]
[['a', 'b', 'c'], ['a', 'b', 'c'], ['c'], []]
""",
    26: """
>>> from whyreran.explaining import is_explained
>>> p = (["s"], ["a", "b"])
>>> [is_explained(p, []), is_explained(p, [([], {"a": "new", "b": "idle"})])]
[True, False]
""",
    27: """
>>> from whyreran.explaining import explanation
>>> p = (["s", "u"], ["a", "b", "c"])
>>> z = [(["s"], {"a": "failed", "b": "blocked", "c": "new"}), ([], {"a": "same", "b": "new", "c": "idle"})]
>>> explanation(p, z)
{'a': ['s', 'u'], 'b': ['a', 's', 'u'], 'c': ['s', 'u']}
""",
    28: """
>>> from whyreran.explaining import find_obstruction
>>> p = (["s"], ["a", "b"])
>>> x = [(["s"], {"a": "new", "b": "new"}), (["s"], {"a": "idle", "b": "idle"})]
>>> y = [(["s"], {"a": "failed", "b": "idle"}), ([], {"a": "idle", "b": "idle"})]
>>> [find_obstruction(p, x), find_obstruction(p, y)]
[('group', {'a': 0, 'b': 0}), ('idle', 1, 'a')]
""",
    29: """
>>> from whyreran.judging import is_obstruction
>>> p = (["s"], ["a", "b"])
>>> x = [(["s"], {"a": "new", "b": "new"}), (["s"], {"a": "idle", "b": "idle"})]
>>> [is_obstruction(p, x, value) for value in [("group", {"b": 0, "a": 0}), ("group", {"a": 0}), ("idle", 1, "a")]]
[True, False, False]
""",
    30: """
>>> from whyreran.explaining import lean_explanation
>>> lean_explanation((["s", "u"], ["a", "b"]), [(["s"], {"a": "new", "b": "idle"})])
{'a': ['s'], 'b': []}

>>> from whyreran.judging import is_lean
>>> p = (["s", "u"], ["a"])
>>> [is_lean(p, [(["s"], {"a": "new"})], {"a": names}) for names in [["s"], ["s", "u"], ["u"]]]
[True, False, False]
""",
    31: """
>>> from whyreran.deciding import standing_of
>>> project = (['s', 'u'], ['a', 'b'])
>>> log = [(['s'], {'a': 'failed', 'b': 'blocked'})]
>>> [standing_of(project, log, 'b', name) for name in ['a', 's', 'u']] + [standing_of(project, log, 'a', 'b')]
['certain', 'open', 'open', 'impossible']
""",
    32: """
>>> from whyreran.deciding import certain_dependencies, possible_dependencies
>>> project = (['s', 'u'], ['t', 'x'])
>>> log = [(['s'], {'t': 'new', 'x': 'new'}), (['s'], {'t': 'same', 'x': 'idle'})]
>>> certain = [certain_dependencies(project, log, target) for target in ['t', 'x']]
>>> certain + [possible_dependencies(project, log, target) for target in ['t', 'x']]
[['s'], ['t'], ['s', 'u'], ['t', 'u']]
""",
    33: """
>>> from whyreran.deciding import graph_with, graph_without
>>> project = (['s', 'u'], ['a'])
>>> log = [(['s'], {'a': 'new'}), (['u'], {'a': 'idle'})]
>>> [graph_with(project, log, 'a', 's'), graph_without(project, log, 'a', 's'), graph_with(project, log, 'a', 'u')]
[{'a': ['s']}, None, None]
""",
    36: """
>>> from whyreran.avoiding import certain_above, certain_below
>>> P = (["s", "u"], ["a", "b", "c"])
>>> L = [(["s"], {"a": "failed", "b": "blocked", "c": "new"}), ([], {"a": "same", "b": "new", "c": "idle"})]
>>> [certain_above(P, L, "b"), certain_above(P, L, "c"), certain_below(P, L, "a"), certain_below(P, L, "u")]
[['a', 's'], ['s'], ['b'], []]
""",
    37: """
>>> from whyreran.avoiding import avoiding_graph, stuck_choices
>>> P = (["s", "u"], ["a", "b", "c"])
>>> L = [(["s"], {"a": "failed", "b": "blocked", "c": "new"}), ([], {"a": "same", "b": "new", "c": "idle"})]
>>> [avoiding_graph(P, L, ["s", "u"])["a"] == [], stuck_choices(P, L, ["s"]), stuck_choices(P, L, ["a"])]
[False, {'a': 0, 'b': 0, 'c': 0}, {'b': 0}]
""",
    38: """
>>> from whyreran.avoiding import is_stuck
>>> P = (["s", "u"], ["a", "b", "c"])
>>> L = [(["s"], {"a": "failed", "b": "blocked", "c": "new"}), ([], {"a": "same", "b": "new", "c": "idle"})]
>>> [is_stuck(P, L, names, {"c": 0}) for names in [["s"], ["u"], []]]
[True, False, False]
""",
    40: """
>>> from whyreran.next_builds import may_run, must_run
>>> P = (["s", "u"], ["a", "b", "c"])
>>> L = [(["s"], {"a": "failed", "b": "blocked", "c": "new"}), ([], {"a": "same", "b": "new", "c": "idle"})]
>>> [must_run(P, L, "a", ["s"]), must_run(P, L, "a", ["s", "c"]), may_run(P, L, "a", ["u"]), may_run(P, L, "c", ["a"])]
[False, True, True, False]
""",
    41: """
>>> from whyreran.next_builds import least_reruns
>>> P = (["s", "u"], ["a", "b", "c"])
>>> L = [(["s"], {"a": "failed", "b": "blocked", "c": "new"}), ([], {"a": "same", "b": "new", "c": "idle"})]
>>> [least_reruns(P, L, ["u"]), least_reruns(P, L, ["s"]), least_reruns(P, L[:1], [])]
[[], ['a', 'b', 'c'], ['a', 'b']]
""",
    42: """
>>> from whyreran.next_builds import certain_blocked
>>> P = (["s", "u"], ["a", "b", "c"])
>>> L = [(["s"], {"a": "failed", "b": "blocked", "c": "new"}), ([], {"a": "same", "b": "new", "c": "idle"})]
>>> [certain_blocked(P, L, "a"), certain_blocked(P, L, "c"), certain_blocked(P, [], "a")]
[['b'], [], []]
""",
    43: """
>>> from whyreran.next_builds import fits_next
>>> P = (["s", "u"], ["a", "b", "c"])
>>> L = [(["s"], {"a": "failed", "b": "blocked", "c": "new"}), ([], {"a": "same", "b": "new", "c": "idle"})]
>>> idle = {"a": "idle", "b": "idle", "c": "idle"}
>>> [fits_next(P, L, (["u"], idle)), fits_next(P, L, (["s"], idle)), fits_next(P, L[:1], ([], idle))]
[True, False, False]
""",
    44: """
>>> from whyreran.next_builds import fitting_statuses
>>> P = (["s", "u"], ["a", "b", "c"])
>>> L = [(["s"], {"a": "failed", "b": "blocked", "c": "new"}), ([], {"a": "same", "b": "new", "c": "idle"})]
>>> idle = {"a": "idle", "b": "idle", "c": "idle"}
>>> fitting_statuses(P, L, (["u"], idle), "c")
['new', 'same', 'failed', 'idle']
""",
    45: """
>>> from whyreran.counting import count_explanations
>>> [count_explanations((['s'], ['a', 'b']), log) for log in [[(['s'], {'a': 'new', 'b': 'new'})], []]]
[5, 12]
""",
    46: """
>>> from whyreran.counting import count_with
>>> project = (['s'], ['a', 'b'])
>>> log = [(['s'], {'a': 'new', 'b': 'new'})]
>>> [count_with(project, log, 'a', 'b'), count_with(project, log, 'a', 's')]
[2, 4]
""",
    47: """
>>> from whyreran.counting import nth_explanation
>>> project = (['s'], ['a', 'b'])
>>> log = [(['s'], {'a': 'new', 'b': 'new'})]
>>> [nth_explanation(project, log, number) for number in [0, 1, 4]]
[{'a': ['s'], 'b': ['s']}, {'a': ['s'], 'b': ['a']}, {'a': ['b', 's'], 'b': ['s']}]

>>> from whyreran.counting import explanation_number
>>> log = [(['s'], {'a': 'new', 'b': 'new'})]
>>> explanation_number((['s'], ['a', 'b']), log, {'a': ['s'], 'b': ['a', 's']})
2
""",
    49: """
>>> from whyreran.equivalence import live_targets
>>> live_targets((["s"], ["a", "b", "c"]), {"a": ["s"], "b": [], "c": ["b"]})
['a']
""",
    50: """
>>> from whyreran.equivalence import greatest_form, least_form
>>> R = (["s"], ["t", "x", "y"])
>>> G = {"t": ["s", "y"], "x": ["s"], "y": ["x"]}
>>> [greatest_form(R, G), least_form(R, G)]
[{'t': ['s', 'x', 'y'], 'x': ['s'], 'y': ['x']}, {'t': ['s', 'y'], 'x': ['s'], 'y': ['x']}]
""",
    51: """
>>> from whyreran.equivalence import have_same_logs
>>> R = (["s"], ["t", "x", "y"])
>>> G = {"t": ["s", "y"], "x": ["s"], "y": ["x"]}
>>> [have_same_logs(R, G, {"t": names, "x": ["s"], "y": ["x"]}) for names in [["s", "x", "y"], ["y"], ["s"]]]
[True, False, False]
""",
    52: """
>>> from whyreran.equivalence import is_superfluous
>>> R = (["s"], ["t", "x", "y"])
>>> G = {"t": ["s", "x", "y"], "x": ["s"], "y": ["x"]}
>>> [is_superfluous(R, G, "t", name) for name in ["s", "x", "y"]]
[False, True, False]

>>> from whyreran.equivalence import uncovered_path
>>> R = (["s"], ["t", "x", "y"])
>>> G = {"t": ["s", "x", "y"], "x": ["s"], "y": ["x"]}
>>> [uncovered_path(R, G, "t", "x"), uncovered_path(R, G, "y", "x")]
[None, ['s', 'x']]
""",
    53: """
>>> from whyreran.builds import explains
>>> from whyreran.equivalence import separating_build
>>> R = (["s"], ["a"])
>>> build, holder = separating_build(R, {"a": ["s"]}, {"a": []})
>>> [explains(R, {"a": ["s"]}, [build]) == (holder == 1), explains(R, {"a": []}, [build]) == (holder == 2)]
[True, True]
""",
    54: """
>>> from whyreran.equivalence import count_same
>>> count_same((["s"], ["t", "x", "y"]), {"t": ["s", "y"], "x": ["s"], "y": ["x"]})
2
""",
    55: """
>>> from whyreran.settling import is_settled
>>> P = (["s", "u"], ["a", "b", "c"])
>>> L = [(["s"], {"a": "failed", "b": "blocked", "c": "new"}), ([], {"a": "same", "b": "new", "c": "idle"})]
>>> [is_settled(P, L), is_settled((["s"], ["a"]), [(["s"], {"a": "new"})])]
[False, True]
""",
    56: """
>>> from whyreran.builds import explains
>>> from whyreran.settling import unsettled_pair
>>> R = (["s", "u"], ["a"])
>>> M = [(["s", "u"], {"a": "new"})]
>>> graph, other, build = unsettled_pair(R, M)
>>> [explains(R, graph, M), explains(R, other, M), explains(R, graph, [build]), explains(R, other, [build])]
[True, True, True, False]
""",
    57: """
>>> from whyreran.builds import explains
>>> from whyreran.settling import is_settled, settling_log
>>> R = (["s"], ["t", "x", "y"])
>>> G = {"t": ["s", "y"], "x": ["s"], "y": ["x"]}
>>> M = settling_log(R, G)
>>> [explains(R, G, M), is_settled(R, M), explains(R, {"t": ["s", "x", "y"], "x": ["s"], "y": ["x"]}, M)]
[True, True, True]
""",
    58: """
>>> from whyreran.conflicts import first_conflict
>>> p = (["s"], ["a", "b"])
>>> n = {"a": "new", "b": "new"}
>>> i = {"a": "idle", "b": "idle"}
>>> [first_conflict(p, [(["s"], n), ([], i), (["s"], i)]), first_conflict(p, [([], n)]), first_conflict(p, [])]
[3, 1, None]
""",
    59: """
>>> from whyreran.conflicts import conflict_core
>>> p = (["s"], ["a", "b"])
>>> n = {"a": "new", "b": "new"}
>>> i = {"a": "idle", "b": "idle"}
>>> conflict_core(p, [(["s"], n), ([], i), (["s"], i)])
[0, 2]
""",
    60: """
>>> from whyreran.conflicts import is_core
>>> p = (["s"], ["a", "b"])
>>> n = {"a": "new", "b": "new"}
>>> i = {"a": "idle", "b": "idle"}
>>> z = [(["s"], n), ([], i), (["s"], i)]
>>> [is_core(p, z, [0, 2]), is_core(p, z, [0, 1, 2]), is_core(p, z, [2])]
[True, False, False]
""",
    61: """
>>> from whyreran.conflicts import culprits
>>> p = (["s"], ["a", "b"])
>>> n = {"a": "new", "b": "new"}
>>> i = {"a": "idle", "b": "idle"}
>>> [culprits(p, [(["s"], n), ([], i), (["s"], i)]), culprits(p, [(["s"], n), (["s"], i), (["s"], n)])]
[[0, 2], [1]]
""",
    62: """
>>> from whyreran.tools import BuildTool
>>> tool = BuildTool((["s"], ["a", "b"]), {"a": ["s"], "b": ["a"]})
>>> one = tool.run(["s"], {"a": "failed", "b": "same"})
>>> [one, tool.run([], {"a": "same", "b": "same"})]
[{'a': 'failed', 'b': 'blocked'}, {'a': 'same', 'b': 'same'}]
""",
    63: """
>>> from whyreran.tools import BuildTool
>>> tool = BuildTool((["s"], ["a", "b"]), {"a": ["s"], "b": ["a"]})
>>> statuses = tool.run(["s"], {"a": "failed", "b": "same"})
>>> other = tool.duplicate()
>>> other.undo()
>>> [tool.pending_targets(), len(other), tool == other]
[['a', 'b'], 0, False]
""",
    64: """
>>> from whyreran.recorder import Recorder
>>> recorder = Recorder((["s"], ["a"]))
>>> recorder.add_build((["s"], {"a": "new"}))
>>> recorder.add_build(([], {"a": "new"}))
>>> recorder.undo()
>>> recorder.builds()
[(['s'], {'a': 'new'})]
""",
    65: """
>>> from whyreran.recorder import Recorder
>>> recorder = Recorder((["s"], ["a"]))
>>> mark = recorder.set_mark()
>>> recorder.add_build((["s"], {"a": "new"}))
>>> recorder.return_to(mark)
>>> empty = recorder.builds()
>>> recorder.undo()
>>> [mark, empty, recorder.builds()]
[0, [], [(['s'], {'a': 'new'})]]
""",
    66: """
>>> from whyreran.recorder import Recorder
>>> recorder = Recorder((["s", "u"], ["a"]))
>>> recorder.add_build((["s"], {"a": "new"}))
>>> before = [recorder.certain_dependencies("a"), recorder.least_reruns(["u"])]
>>> recorder.add_build((["s"], {"a": "idle"}))
>>> before + [recorder.is_explained(), recorder.find_obstruction()]
[['s'], [], False, ('group', {'a': 0})]
""",
    67: """
>>> from whyreran.recorder import Recorder
>>> recorder = Recorder((["s"], ["a"]))
>>> mark = recorder.set_mark()
>>> other = recorder.duplicate()
>>> other.add_build(([], {"a": "idle"}))
>>> other.return_to(mark)
>>> [recorder == other, len(other)]
[True, 0]
""",
    68: """
>>> from whyreran.texts import format_graph
>>> p = (["s", "u"], ["a", "b", "c"])
>>> format_graph(p, {"a": ["s"], "b": ["a", "u"], "c": []})
'a: s\\nb: a u\\nc:'

>>> from whyreran.texts import parse_graph
>>> p = (["s", "u"], ["a", "b", "c"])
>>> parse_graph(p, 'a: b\\nb: a\\nc:')
raises InvalidText(position=1)
""",
    69: """
>>> from whyreran.texts import format_build
>>> p = (["s", "u"], ["a", "b"])
>>> format_build(p, (["s", "u"], {"a": "failed", "b": "blocked"}))
's u | a=failed b=blocked'

>>> from whyreran.texts import parse_build
>>> parse_build((["s"], ["a"]), '- | a=idle')
([], {'a': 'idle'})
""",
    70: """
>>> from whyreran.texts import format_log
>>> p = (["s"], ["a"])
>>> format_log(p, [(["s"], {"a": "new"}), ([], {"a": "idle"})])
's | a=new\\n- | a=idle'

>>> from whyreran.texts import parse_log
>>> parse_log((["s"], ["a"]), 's | a=new\\n')
raises InvalidText(position=1)
""",
    73: """
>>> from whyreran.console import Console
>>> console = Console()
>>> rows = ["project s u / a b", "build s | a=new b=new", "explained", "why a s", "next u", "graph"]
>>> [console.execute(row) for row in rows]
['ok', 'ok', 'yes', 'open', 'none', 'a: s u\\nb: a s u']
""",
}


def outcome(source, names):
    """Run one statement, and return what an interpreter prints, in the way of the document."""
    told = io.StringIO()
    try:
        with contextlib.redirect_stdout(told):
            exec(compile(source, "<example>", "single"), names)
    except RerunError as error:
        fields = ", ".join("%s=%r" % pair for pair in vars(error).items())
        return "raises %s(%s)\n" % (error.__class__.__name__, fields)
    return told.getvalue()


class ExamplesOfTheDocument(unittest.TestCase):
    def test_every_example_gives_what_the_document_prints(self):
        for point in EXAMPLES:
            names = {}
            examples = doctest.DocTestParser().get_examples(EXAMPLES[point])
            self.assertGreater(len(examples), 1)
            for example in examples:
                with self.subTest(point=point, source=example.source):
                    self.assertEqual(outcome(example.source, names), example.want)


if __name__ == "__main__":
    unittest.main()
