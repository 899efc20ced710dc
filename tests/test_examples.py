"""The examples of the document, word for word, by the number of their point."""

import doctest
import unittest

EXAMPLES = {
    13: """
>>> from whyreran.projects import is_name
>>> is_name("9lives")
False

>>> from whyreran.projects import is_project
>>> is_project((["s", "u"], ["a", "b", "c"]))
True

>>> from whyreran.projects import is_graph
>>> p = (["s"], ["a", "b"])
>>> is_graph(p, {"a": ["b"], "b": ["a"]})
False

>>> from whyreran.projects import is_build
>>> p = (["s"], ["a", "b"])
>>> is_build(p, (["s"], {"a": "new", "b": "blocked"}))
True

>>> from whyreran.projects import is_log
>>> p = (["s"], ["a", "b"])
>>> is_log(p, [(["a"], {"a": "new", "b": "idle"})])
False
""",
    14: """
>>> from whyreran.projects import names_of
>>> names_of((["s", "u"], ["a", "t"]))
['a', 's', 't', 'u']

>>> from whyreran.projects import names_above
>>> p = (["s", "u"], ["a", "b", "c"])
>>> g = {"a": ["s"], "b": ["a", "u"], "c": ["b"]}
>>> names_above(p, g, "c")
['a', 'b', 's', 'u']

>>> from whyreran.projects import targets_below
>>> p = (["s", "u"], ["a", "b", "c"])
>>> g = {"a": ["s"], "b": ["a", "u"], "c": ["b"]}
>>> targets_below(p, g, "u")
['b', 'c']
""",
    15: """
>>> from whyreran.projects import cycle_in
>>> p = (["s"], ["a", "b"])
>>> [cycle_in(p, {"a": ["b"], "b": ["s"]}), cycle_in(p, {"a": ["a", "s"], "b": ["a"]})]
[None, ['a']]
""",
    16: """
>>> from whyreran.projects import target_order
>>> p = (["s"], ["a", "b", "c"])
>>> target_order(p, {"a": ["c"], "b": [], "c": ["s"]})
['b', 'c', 'a']
""",
    17: """
>>> from whyreran.builds import run_build
>>> P = (["s", "u"], ["a", "b", "c"])
>>> G = {"a": ["s"], "b": ["a"], "c": ["s"]}
>>> run_build(P, G, [], ["s"], {"a": "failed", "b": "new", "c": "new"})
{'a': 'failed', 'b': 'blocked', 'c': 'new'}
""",
    18: """
>>> from whyreran.builds import run_builds
>>> P = (["s", "u"], ["a", "b", "c"])
>>> G = {"a": ["s"], "b": ["a"], "c": ["s"]}
>>> first = (["s"], {"a": "failed", "b": "new", "c": "new"})
>>> second = ([], {"a": "same", "b": "new", "c": "new"})
>>> run_builds(P, G, [first, second])[1]
([], {'a': 'same', 'b': 'new', 'c': 'idle'})
""",
    19: """
>>> from whyreran.builds import pending_in
>>> P = (["s"], ["a", "b"])
>>> log = [(["s"], {"a": "failed", "b": "blocked"})]
>>> [pending_in(P, log, 0), pending_in(P, log, 1)]
[[], ['a', 'b']]
""",
    20: """
>>> from whyreran.builds import explains, first_mismatch
>>> P = (["s"], ["a", "b"])
>>> log = [(["s"], {"a": "failed", "b": "blocked"})]
>>> G, H = {"a": ["s"], "b": ["a"]}, {"a": ["s"], "b": ["s"]}
>>> [explains(P, G, log), first_mismatch(P, G, log), first_mismatch(P, H, log)]
[True, None, (0, 'b', 'runs')]
""",
    21: """
>>> from whyreran.builds import cause_of, run_builds
>>> P = (["s", "u"], ["a", "b", "c"])
>>> G = {"a": ["s"], "b": ["a"], "c": ["s"]}
>>> first = (["s"], {"a": "failed", "b": "new", "c": "new"})
>>> L = run_builds(P, G, [first, ([], {"a": "same", "b": "new", "c": "new"})])
>>> [cause_of(P, G, L, 0, "c"), cause_of(P, G, L, 0, "b"), cause_of(P, G, L, 1, "b"), cause_of(P, G, L, 1, "c")]
[['s', 'c'], ['a', 'b'], ['b'], None]
""",
}


class ExamplesOfTheDocument(unittest.TestCase):
    def test_every_example_gives_what_the_document_prints(self):
        for point in EXAMPLES:
            with self.subTest(point=point):
                test = doctest.DocTestParser().get_doctest(
                    EXAMPLES[point], {}, "point %d" % point, None, 0
                )
                told = []
                runner = doctest.DocTestRunner(verbose=False)
                runner.run(test, out=told.append)
                self.assertGreater(runner.tries, 0)
                self.assertEqual(runner.failures, 0, "".join(told))


if __name__ == "__main__":
    unittest.main()
