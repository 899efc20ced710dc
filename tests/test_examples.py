"""The examples of the document, word for word, by the number of their point."""

import doctest
import unittest

EXAMPLES = {
    13: """
>>> from whyreran.projects import is_name
>>> is_name("9lives")
False

>>> from whyreran.projects import is_project
>>> is_project((["s", "u"], ["a", "b", "c"]))
True

>>> from whyreran.projects import is_graph
>>> p = (["s"], ["a", "b"])
>>> is_graph(p, {"a": ["b"], "b": ["a"]})
False

>>> from whyreran.projects import is_build
>>> p = (["s"], ["a", "b"])
>>> is_build(p, (["s"], {"a": "new", "b": "blocked"}))
True

>>> from whyreran.projects import is_log
>>> p = (["s"], ["a", "b"])
>>> is_log(p, [(["a"], {"a": "new", "b": "idle"})])
False
""",
    14: """
>>> from whyreran.projects import names_of
>>> names_of((["s", "u"], ["a", "t"]))
['a', 's', 't', 'u']

>>> from whyreran.projects import names_above
>>> p = (["s", "u"], ["a", "b", "c"])
>>> g = {"a": ["s"], "b": ["a", "u"], "c": ["b"]}
>>> names_above(p, g, "c")
['a', 'b', 's', 'u']

>>> from whyreran.projects import targets_below
>>> p = (["s", "u"], ["a", "b", "c"])
>>> g = {"a": ["s"], "b": ["a", "u"], "c": ["b"]}
>>> targets_below(p, g, "u")
['b', 'c']
""",
    15: """
>>> from whyreran.projects import cycle_in
>>> p = (["s"], ["a", "b"])
>>> [cycle_in(p, {"a": ["b"], "b": ["s"]}), cycle_in(p, {"a": ["a", "s"], "b": ["a"]})]
[None, ['a']]
""",
    16: """
>>> from whyreran.projects import target_order
>>> p = (["s"], ["a", "b", "c"])
>>> target_order(p, {"a": ["c"], "b": [], "c": ["s"]})
['b', 'c', 'a']
""",
    17: """
>>> from whyreran.builds import run_build
>>> P = (["s", "u"], ["a", "b", "c"])
>>> G = {"a": ["s"], "b": ["a"], "c": ["s"]}
>>> run_build(P, G, [], ["s"], {"a": "failed", "b": "new", "c": "new"})
{'a': 'failed', 'b': 'blocked', 'c': 'new'}
""",
    18: """
>>> from whyreran.builds import run_builds
>>> P = (["s", "u"], ["a", "b", "c"])
>>> G = {"a": ["s"], "b": ["a"], "c": ["s"]}
>>> first = (["s"], {"a": "failed", "b": "new", "c": "new"})
>>> second = ([], {"a": "same", "b": "new", "c": "new"})
>>> run_builds(P, G, [first, second])[1]
([], {'a': 'same', 'b': 'new', 'c': 'idle'})
""",
    19: """
>>> from whyreran.builds import pending_in
>>> P = (["s"], ["a", "b"])
>>> log = [(["s"], {"a": "failed", "b": "blocked"})]
>>> [pending_in(P, log, 0), pending_in(P, log, 1)]
[[], ['a', 'b']]
""",
    20: """
>>> from whyreran.builds import explains, first_mismatch
>>> P = (["s"], ["a", "b"])
>>> log = [(["s"], {"a": "failed", "b": "blocked"})]
>>> G, H = {"a": ["s"], "b": ["a"]}, {"a": ["s"], "b": ["s"]}
>>> [explains(P, G, log), first_mismatch(P, G, log), first_mismatch(P, H, log)]
[True, None, (0, 'b', 'runs')]
""",
    21: """
>>> from whyreran.builds import cause_of, run_builds
>>> P = (["s", "u"], ["a", "b", "c"])
>>> G = {"a": ["s"], "b": ["a"], "c": ["s"]}
>>> first = (["s"], {"a": "failed", "b": "new", "c": "new"})
>>> L = run_builds(P, G, [first, ([], {"a": "same", "b": "new", "c": "new"})])
>>> [cause_of(P, G, L, 0, "c"), cause_of(P, G, L, 0, "b"), cause_of(P, G, L, 1, "b"), cause_of(P, G, L, 1, "c")]
[['s', 'c'], ['a', 'b'], ['b'], None]
""",
    22: """
>>> from whyreran.facts import exclusion
>>> p = (["s"], ["a", "b", "c"])
>>> z = [(["s"], {"a": "new", "b": "idle", "c": "failed"}), ([], {"a": "idle", "b": "idle", "c": "same"})]
>>> [exclusion(p, z, "b", "s"), exclusion(p, z, "b", "c"), exclusion(p, z, "c", "s")]
[(0, 'changed'), (0, 'broken'), None]
""",
    23: """
>>> from whyreran.facts import permitted_names
>>> p = (["s", "u"], ["a", "b", "c"])
>>> z = [(["s"], {"a": "failed", "b": "blocked", "c": "new"}), ([], {"a": "same", "b": "new", "c": "idle"})]
>>> [permitted_names(p, z, target) for target in ["a", "b", "c"]]
[['c', 's', 'u'], ['a', 'c', 's', 'u'], ['s', 'u']]
""",
    24: """
>>> from whyreran.facts import needs_of
>>> p = (["s", "u"], ["a", "b", "c"])
>>> z = [(["s"], {"a": "failed", "b": "blocked", "c": "new"}), ([], {"a": "same", "b": "new", "c": "idle"})]
>>> [needs_of(p, z, target) for target in ["a", "b", "c"]]
[[(0, ['c', 's'])], [(0, ['a'])], [(0, ['s'])]]
""",
    25: """
>>> from whyreran.facts import closure_without
>>> p = (["s", "u"], ["a", "b", "c"])
>>> z = [(["s"], {"a": "failed", "b": "blocked", "c": "new"}), ([], {"a": "same", "b": "new", "c": "idle"})]
>>> [closure_without(p, z, names) for names in [[], ["u"], ["a"], ["s"]]]
[['a', 'b', 'c'], ['a', 'b', 'c'], ['c'], []]
""",
    26: """
>>> from whyreran.explaining import is_explained
>>> p = (["s"], ["a", "b"])
>>> [is_explained(p, []), is_explained(p, [([], {"a": "new", "b": "idle"})])]
[True, False]
""",
    27: """
>>> from whyreran.explaining import explanation
>>> p = (["s", "u"], ["a", "b", "c"])
>>> z = [(["s"], {"a": "failed", "b": "blocked", "c": "new"}), ([], {"a": "same", "b": "new", "c": "idle"})]
>>> explanation(p, z)
{'a': ['s', 'u'], 'b': ['a', 's', 'u'], 'c': ['s', 'u']}
""",
    28: """
>>> from whyreran.explaining import find_obstruction
>>> p = (["s"], ["a", "b"])
>>> x = [(["s"], {"a": "new", "b": "new"}), (["s"], {"a": "idle", "b": "idle"})]
>>> y = [(["s"], {"a": "failed", "b": "idle"}), ([], {"a": "idle", "b": "idle"})]
>>> [find_obstruction(p, x), find_obstruction(p, y)]
[('group', {'a': 0, 'b': 0}), ('idle', 1, 'a')]
""",
    29: """
>>> from whyreran.judging import is_obstruction
>>> p = (["s"], ["a", "b"])
>>> x = [(["s"], {"a": "new", "b": "new"}), (["s"], {"a": "idle", "b": "idle"})]
>>> [is_obstruction(p, x, value) for value in [("group", {"b": 0, "a": 0}), ("group", {"a": 0}), ("idle", 1, "a")]]
[True, False, False]
""",
    30: """
>>> from whyreran.explaining import lean_explanation
>>> lean_explanation((["s", "u"], ["a", "b"]), [(["s"], {"a": "new", "b": "idle"})])
{'a': ['s'], 'b': []}

>>> from whyreran.judging import is_lean
>>> p = (["s", "u"], ["a"])
>>> [is_lean(p, [(["s"], {"a": "new"})], {"a": names}) for names in [["s"], ["s", "u"], ["u"]]]
[True, False, False]
""",
}


class ExamplesOfTheDocument(unittest.TestCase):
    def test_every_example_gives_what_the_document_prints(self):
        for point in EXAMPLES:
            with self.subTest(point=point):
                test = doctest.DocTestParser().get_doctest(
                    EXAMPLES[point], {}, "point %d" % point, None, 0
                )
                told = []
                runner = doctest.DocTestRunner(verbose=False)
                runner.run(test, out=told.append)
                self.assertGreater(runner.tries, 0)
                self.assertEqual(runner.failures, 0, "".join(told))


if __name__ == "__main__":
    unittest.main()
