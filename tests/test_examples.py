"""The examples of the document, word for word, by the number of their point."""

import doctest
import unittest

EXAMPLES = {
    13: """
>>> from whyreran.projects import is_name
>>> is_name("9lives")
False

>>> from whyreran.projects import is_project
>>> is_project((["s", "u"], ["a", "b", "c"]))
True

>>> from whyreran.projects import is_graph
>>> p = (["s"], ["a", "b"])
>>> is_graph(p, {"a": ["b"], "b": ["a"]})
False

>>> from whyreran.projects import is_build
>>> p = (["s"], ["a", "b"])
>>> is_build(p, (["s"], {"a": "new", "b": "blocked"}))
True

>>> from whyreran.projects import is_log
>>> p = (["s"], ["a", "b"])
>>> is_log(p, [(["a"], {"a": "new", "b": "idle"})])
False
""",
    14: """
>>> from whyreran.projects import names_of
>>> names_of((["s", "u"], ["a", "t"]))
['a', 's', 't', 'u']

>>> from whyreran.projects import names_above
>>> p = (["s", "u"], ["a", "b", "c"])
>>> g = {"a": ["s"], "b": ["a", "u"], "c": ["b"]}
>>> names_above(p, g, "c")
['a', 'b', 's', 'u']

>>> from whyreran.projects import targets_below
>>> p = (["s", "u"], ["a", "b", "c"])
>>> g = {"a": ["s"], "b": ["a", "u"], "c": ["b"]}
>>> targets_below(p, g, "u")
['b', 'c']
""",
    15: """
>>> from whyreran.projects import cycle_in
>>> p = (["s"], ["a", "b"])
>>> [cycle_in(p, {"a": ["b"], "b": ["s"]}), cycle_in(p, {"a": ["a", "s"], "b": ["a"]})]
[None, ['a']]
""",
    16: """
>>> from whyreran.projects import target_order
>>> p = (["s"], ["a", "b", "c"])
>>> target_order(p, {"a": ["c"], "b": [], "c": ["s"]})
['b', 'c', 'a']
""",
    17: """
>>> from whyreran.builds import run_build
>>> P = (["s", "u"], ["a", "b", "c"])
>>> G = {"a": ["s"], "b": ["a"], "c": ["s"]}
>>> run_build(P, G, [], ["s"], {"a": "failed", "b": "new", "c": "new"})
{'a': 'failed', 'b': 'blocked', 'c': 'new'}
""",
    18: """
>>> from whyreran.builds import run_builds
>>> P = (["s", "u"], ["a", "b", "c"])
>>> G = {"a": ["s"], "b": ["a"], "c": ["s"]}
>>> first = (["s"], {"a": "failed", "b": "new", "c": "new"})
>>> second = ([], {"a": "same", "b": "new", "c": "new"})
>>> run_builds(P, G, [first, second])[1]
([], {'a': 'same', 'b': 'new', 'c': 'idle'})
""",
    19: """
>>> from whyreran.builds import pending_in
>>> P = (["s"], ["a", "b"])
>>> log = [(["s"], {"a": "failed", "b": "blocked"})]
>>> [pending_in(P, log, 0), pending_in(P, log, 1)]
[[], ['a', 'b']]
""",
    20: """
>>> from whyreran.builds import explains, first_mismatch
>>> P = (["s"], ["a", "b"])
>>> log = [(["s"], {"a": "failed", "b": "blocked"})]
>>> G, H = {"a": ["s"], "b": ["a"]}, {"a": ["s"], "b": ["s"]}
>>> [explains(P, G, log), first_mismatch(P, G, log), first_mismatch(P, H, log)]
[True, None, (0, 'b', 'runs')]
""",
    21: """
>>> from whyreran.builds import cause_of, run_builds
>>> P = (["s", "u"], ["a", "b", "c"])
>>> G = {"a": ["s"], "b": ["a"], "c": ["s"]}
>>> first = (["s"], {"a": "failed", "b": "new", "c": "new"})
>>> L = run_builds(P, G, [first, ([], {"a": "same", "b": "new", "c": "new"})])
>>> [cause_of(P, G, L, 0, "c"), cause_of(P, G, L, 0, "b"), cause_of(P, G, L, 1, "b"), cause_of(P, G, L, 1, "c")]
[['s', 'c'], ['a', 'b'], ['b'], None]
""",
    22: """
>>> from whyreran.facts import exclusion
>>> p = (["s"], ["a", "b", "c"])
>>> z = [(["s"], {"a": "new", "b": "idle", "c": "failed"}), ([], {"a": "idle", "b": "idle", "c": "same"})]
>>> [exclusion(p, z, "b", "s"), exclusion(p, z, "b", "c"), exclusion(p, z, "c", "s")]
[(0, 'changed'), (0, 'broken'), None]
""",
    23: """
>>> from whyreran.facts import permitted_names
>>> p = (["s", "u"], ["a", "b", "c"])
>>> z = [(["s"], {"a": "failed", "b": "blocked", "c": "new"}), ([], {"a": "same", "b": "new", "c": "idle"})]
>>> [permitted_names(p, z, target) for target in ["a", "b", "c"]]
[['c', 's', 'u'], ['a', 'c', 's', 'u'], ['s', 'u']]
""",
    24: """
>>> from whyreran.facts import needs_of
>>> p = (["s", "u"], ["a", "b", "c"])
>>> z = [(["s"], {"a": "failed", "b": "blocked", "c": "new"}), ([], {"a": "same", "b": "new", "c": "idle"})]
>>> [needs_of(p, z, target) for target in ["a", "b", "c"]]
[[(0, ['c', 's'])], [(0, ['a'])], [(0, ['s'])]]
""",
    25: """
>>> from whyreran.facts import closure_without
>>> p = (["s", "u"], ["a", "b", "c"])
>>> z = [(["s"], {"a": "failed", "b": "blocked", "c": "new"}), ([], {"a": "same", "b": "new", "c": "idle"})]
>>> [closure_without(p, z, names) for names in [[], ["u"], ["a"], ["s"]]]
[['a', 'b', 'c'], ['a', 'b', 'c'], ['c'], []]
""",
    26: """
>>> from whyreran.explaining import is_explained
>>> p = (["s"], ["a", "b"])
>>> [is_explained(p, []), is_explained(p, [([], {"a": "new", "b": "idle"})])]
[True, False]
""",
    27: """
>>> from whyreran.explaining import explanation
>>> p = (["s", "u"], ["a", "b", "c"])
>>> z = [(["s"], {"a": "failed", "b": "blocked", "c": "new"}), ([], {"a": "same", "b": "new", "c": "idle"})]
>>> explanation(p, z)
{'a': ['s', 'u'], 'b': ['a', 's', 'u'], 'c': ['s', 'u']}
""",
    28: """
>>> from whyreran.explaining import find_obstruction
>>> p = (["s"], ["a", "b"])
>>> x = [(["s"], {"a": "new", "b": "new"}), (["s"], {"a": "idle", "b": "idle"})]
>>> y = [(["s"], {"a": "failed", "b": "idle"}), ([], {"a": "idle", "b": "idle"})]
>>> [find_obstruction(p, x), find_obstruction(p, y)]
[('group', {'a': 0, 'b': 0}), ('idle', 1, 'a')]
""",
    29: """
>>> from whyreran.judging import is_obstruction
>>> p = (["s"], ["a", "b"])
>>> x = [(["s"], {"a": "new", "b": "new"}), (["s"], {"a": "idle", "b": "idle"})]
>>> [is_obstruction(p, x, value) for value in [("group", {"b": 0, "a": 0}), ("group", {"a": 0}), ("idle", 1, "a")]]
[True, False, False]
""",
    30: """
>>> from whyreran.explaining import lean_explanation
>>> lean_explanation((["s", "u"], ["a", "b"]), [(["s"], {"a": "new", "b": "idle"})])
{'a': ['s'], 'b': []}

>>> from whyreran.judging import is_lean
>>> p = (["s", "u"], ["a"])
>>> [is_lean(p, [(["s"], {"a": "new"})], {"a": names}) for names in [["s"], ["s", "u"], ["u"]]]
[True, False, False]
""",
    31: """
>>> from whyreran.deciding import standing_of
>>> project = (['s', 'u'], ['a', 'b'])
>>> log = [(['s'], {'a': 'failed', 'b': 'blocked'})]
>>> [standing_of(project, log, 'b', name) for name in ['a', 's', 'u']] + [standing_of(project, log, 'a', 'b')]
['certain', 'open', 'open', 'impossible']
""",
    32: """
>>> from whyreran.deciding import certain_dependencies, possible_dependencies
>>> project = (['s', 'u'], ['t', 'x'])
>>> log = [(['s'], {'t': 'new', 'x': 'new'}), (['s'], {'t': 'same', 'x': 'idle'})]
>>> certain = [certain_dependencies(project, log, target) for target in ['t', 'x']]
>>> certain + [possible_dependencies(project, log, target) for target in ['t', 'x']]
[['s'], ['t'], ['s', 'u'], ['t', 'u']]
""",
    33: """
>>> from whyreran.deciding import graph_with, graph_without
>>> project = (['s', 'u'], ['a'])
>>> log = [(['s'], {'a': 'new'}), (['u'], {'a': 'idle'})]
>>> [graph_with(project, log, 'a', 's'), graph_without(project, log, 'a', 's'), graph_with(project, log, 'a', 'u')]
[{'a': ['s']}, None, None]
""",
    36: """
>>> from whyreran.avoiding import certain_above, certain_below
>>> P = (["s", "u"], ["a", "b", "c"])
>>> L = [(["s"], {"a": "failed", "b": "blocked", "c": "new"}), ([], {"a": "same", "b": "new", "c": "idle"})]
>>> [certain_above(P, L, "b"), certain_above(P, L, "c"), certain_below(P, L, "a"), certain_below(P, L, "u")]
[['a', 's'], ['s'], ['b'], []]
""",
    37: """
>>> from whyreran.avoiding import avoiding_graph, stuck_choices
>>> P = (["s", "u"], ["a", "b", "c"])
>>> L = [(["s"], {"a": "failed", "b": "blocked", "c": "new"}), ([], {"a": "same", "b": "new", "c": "idle"})]
>>> [avoiding_graph(P, L, ["s", "u"])["a"] == [], stuck_choices(P, L, ["s"]), stuck_choices(P, L, ["a"])]
[False, {'a': 0, 'b': 0, 'c': 0}, {'b': 0}]
""",
    38: """
>>> from whyreran.avoiding import is_stuck
>>> P = (["s", "u"], ["a", "b", "c"])
>>> L = [(["s"], {"a": "failed", "b": "blocked", "c": "new"}), ([], {"a": "same", "b": "new", "c": "idle"})]
>>> [is_stuck(P, L, names, {"c": 0}) for names in [["s"], ["u"], []]]
[True, False, False]
""",
    40: """
>>> from whyreran.next_builds import may_run, must_run
>>> P = (["s", "u"], ["a", "b", "c"])
>>> L = [(["s"], {"a": "failed", "b": "blocked", "c": "new"}), ([], {"a": "same", "b": "new", "c": "idle"})]
>>> [must_run(P, L, "a", ["s"]), must_run(P, L, "a", ["s", "c"]), may_run(P, L, "a", ["u"]), may_run(P, L, "c", ["a"])]
[False, True, True, False]
""",
    41: """
>>> from whyreran.next_builds import least_reruns
>>> P = (["s", "u"], ["a", "b", "c"])
>>> L = [(["s"], {"a": "failed", "b": "blocked", "c": "new"}), ([], {"a": "same", "b": "new", "c": "idle"})]
>>> [least_reruns(P, L, ["u"]), least_reruns(P, L, ["s"]), least_reruns(P, L[:1], [])]
[[], ['a', 'b', 'c'], ['a', 'b']]
""",
    42: """
>>> from whyreran.next_builds import certain_blocked
>>> P = (["s", "u"], ["a", "b", "c"])
>>> L = [(["s"], {"a": "failed", "b": "blocked", "c": "new"}), ([], {"a": "same", "b": "new", "c": "idle"})]
>>> [certain_blocked(P, L, "a"), certain_blocked(P, L, "c"), certain_blocked(P, [], "a")]
[['b'], [], []]
""",
    43: """
>>> from whyreran.next_builds import fits_next
>>> P = (["s", "u"], ["a", "b", "c"])
>>> L = [(["s"], {"a": "failed", "b": "blocked", "c": "new"}), ([], {"a": "same", "b": "new", "c": "idle"})]
>>> idle = {"a": "idle", "b": "idle", "c": "idle"}
>>> [fits_next(P, L, (["u"], idle)), fits_next(P, L, (["s"], idle)), fits_next(P, L[:1], ([], idle))]
[True, False, False]
""",
    44: """
>>> from whyreran.next_builds import fitting_statuses
>>> P = (["s", "u"], ["a", "b", "c"])
>>> L = [(["s"], {"a": "failed", "b": "blocked", "c": "new"}), ([], {"a": "same", "b": "new", "c": "idle"})]
>>> idle = {"a": "idle", "b": "idle", "c": "idle"}
>>> fitting_statuses(P, L, (["u"], idle), "c")
['new', 'same', 'failed', 'idle']
""",
    45: """
>>> from whyreran.counting import count_explanations
>>> [count_explanations((['s'], ['a', 'b']), log) for log in [[(['s'], {'a': 'new', 'b': 'new'})], []]]
[5, 12]
""",
    46: """
>>> from whyreran.counting import count_with
>>> project = (['s'], ['a', 'b'])
>>> log = [(['s'], {'a': 'new', 'b': 'new'})]
>>> [count_with(project, log, 'a', 'b'), count_with(project, log, 'a', 's')]
[2, 4]
""",
    47: """
>>> from whyreran.counting import nth_explanation
>>> project = (['s'], ['a', 'b'])
>>> log = [(['s'], {'a': 'new', 'b': 'new'})]
>>> [nth_explanation(project, log, number) for number in [0, 1, 4]]
[{'a': ['s'], 'b': ['s']}, {'a': ['s'], 'b': ['a']}, {'a': ['b', 's'], 'b': ['s']}]

>>> from whyreran.counting import explanation_number
>>> log = [(['s'], {'a': 'new', 'b': 'new'})]
>>> explanation_number((['s'], ['a', 'b']), log, {'a': ['s'], 'b': ['a', 's']})
2
""",
}


class ExamplesOfTheDocument(unittest.TestCase):
    def test_every_example_gives_what_the_document_prints(self):
        for point in EXAMPLES:
            with self.subTest(point=point):
                test = doctest.DocTestParser().get_doctest(
                    EXAMPLES[point], {}, "point %d" % point, None, 0
                )
                told = []
                runner = doctest.DocTestRunner(verbose=False)
                runner.run(test, out=told.append)
                self.assertGreater(runner.tries, 0)
                self.assertEqual(runner.failures, 0, "".join(told))


if __name__ == "__main__":
    unittest.main()
