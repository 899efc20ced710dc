"""Point 3: the errors, their fields, and which one comes first."""

import unittest

from tests.support import G, L, P, odd_values
from whyreran import errors
from whyreran.builds import (
    cause_of,
    explains,
    first_mismatch,
    pending_in,
    run_build,
    run_builds,
)
from whyreran.errors import (
    InvalidGraph,
    InvalidLog,
    InvalidName,
    InvalidNames,
    InvalidNumber,
    InvalidProject,
    InvalidResults,
    InvalidTarget,
    RerunError,
)
from whyreran.projects import (
    cycle_in,
    is_build,
    is_graph,
    is_log,
    names_above,
    names_of,
    target_order,
    targets_below,
)

PLAIN = [
    "InvalidProject", "InvalidGraph", "InvalidBuild", "InvalidLog", "InvalidTarget", "InvalidName",
    "InvalidNames", "InvalidResults", "InvalidNumber", "InvalidMark", "InvalidCommand",
    "NothingToUndo",
]
FIELDS = {"NotExplained": "obstruction", "InvalidText": "position", "TooLarge": "limit"}
R = {"a": "new", "b": "same", "c": "failed"}

# Each row: the function, right arguments, and where an error can arise, in the order of checking.
CALLS = [
    (is_graph, (P, G), [(0, InvalidProject)]),
    (is_build, (P, L[0]), [(0, InvalidProject)]),
    (is_log, (P, L), [(0, InvalidProject)]),
    (names_of, (P,), [(0, InvalidProject)]),
    (names_above, (P, G, "c"), [(0, InvalidProject), (1, InvalidGraph), (2, InvalidName)]),
    (targets_below, (P, G, "s"), [(0, InvalidProject), (1, InvalidGraph), (2, InvalidName)]),
    (cycle_in, (P, G), [(0, InvalidProject), (1, InvalidGraph)]),
    (target_order, (P, G), [(0, InvalidProject), (1, InvalidGraph)]),
    (run_build, (P, G, ["a"], ["s"], R), [
        (0, InvalidProject), (1, InvalidGraph), (2, InvalidNames), (3, InvalidNames),
        (4, InvalidResults),
    ]),
    (run_builds, (P, G, [(["s"], R)]), [(0, InvalidProject), (1, InvalidGraph), (2, InvalidLog)]),
    (pending_in, (P, L, 1), [(0, InvalidProject), (1, InvalidLog), (2, InvalidNumber)]),
    (explains, (P, G, L), [(0, InvalidProject), (1, InvalidGraph), (2, InvalidLog)]),
    (first_mismatch, (P, G, L), [(0, InvalidProject), (1, InvalidGraph), (2, InvalidLog)]),
    (cause_of, (P, G, L, 1, "b"), [
        (0, InvalidProject), (1, InvalidGraph), (2, InvalidLog), (4, InvalidTarget),
        (3, InvalidNumber),
    ]),
]


def is_right(function, at, value):
    """Tell whether one of the odd values is a right one in this place after all."""
    if isinstance(value, list) and not value:
        return (function, at) in [
            (run_build, 2), (run_build, 3), (run_builds, 2), (pending_in, 1), (explains, 2),
            (first_mismatch, 2), (cause_of, 2),
        ]
    if isinstance(value, str) and value in ("s", "a"):
        return (function, at) in [(names_above, 2), (targets_below, 2)] or (
            value == "a" and (function, at) == (cause_of, 4)
        )
    if isinstance(value, int) and not isinstance(value, bool) and value in (0, 1):
        return (function, at) in [(pending_in, 2), (cause_of, 3)]
    return False


def wrong_values(function, at):
    return [value for value in odd_values() if not is_right(function, at, value)]


class TheClasses(unittest.TestCase):
    def test_the_base_is_a_value_error(self):
        self.assertEqual(RerunError.__bases__, (ValueError,))
        self.assertEqual(str(RerunError("why")), "why")

    def test_the_other_errors_are_direct_subclasses_of_the_base(self):
        for name in PLAIN + list(FIELDS):
            self.assertEqual(getattr(errors, name).__bases__, (RerunError,), name)

    def test_there_are_no_other_errors(self):
        found = [name for name in vars(errors) if isinstance(getattr(errors, name), type)]
        self.assertEqual(sorted(found), sorted(PLAIN + list(FIELDS) + ["RerunError"]))

    def test_errors_without_a_field_take_one_string(self):
        for name in PLAIN:
            self.assertEqual(str(getattr(errors, name)("some words")), "some words", name)

    def test_errors_with_a_field_store_it_under_its_name(self):
        for name, field in FIELDS.items():
            for value in [5, None, 0, ("group", {"a": 0}), ("idle", 1, "a")]:
                error = getattr(errors, name)(value)
                self.assertEqual(getattr(error, field), value)
                self.assertEqual(vars(error), {field: value})
                self.assertIsInstance(str(error), str)
                same = getattr(errors, name)(**{field: value})
                self.assertEqual(getattr(same, field), value)


class TheArguments(unittest.TestCase):
    def test_the_right_arguments_raise_nothing(self):
        for function, args, _ in CALLS:
            function(*args)

    def test_any_value_in_the_place_of_an_argument(self):
        for function, args, places in CALLS:
            for at, error in places:
                for value in wrong_values(function, at):
                    with self.subTest(function=function.__name__, at=at, value=repr(value)):
                        row = list(args)
                        row[at] = value
                        self.check(error, function, row)

    def test_of_two_wrong_arguments_the_first_one_counts(self):
        for function, args, places in CALLS:
            for first in range(len(places)):
                for second in range(first + 1, len(places)):
                    with self.subTest(function=function.__name__, first=first, second=second):
                        row = list(args)
                        row[places[first][0]] = None
                        row[places[second][0]] = None
                        self.check(places[first][1], function, row)

    def test_of_all_wrong_arguments_the_first_one_counts(self):
        for function, args, places in CALLS:
            for start in range(len(places)):
                row = list(args)
                for at, _ in places[start:]:
                    row[at] = object()
                self.check(places[start][1], function, row)

    def test_the_value_that_is_asked_about_raises_nothing(self):
        for function in (is_graph, is_build, is_log):
            for value in odd_values():
                expected = function is is_log and isinstance(value, list) and not value
                self.assertIs(function(P, value), expected, repr(value))

    def test_the_project_is_checked_first_also_if_the_value_is_wrong(self):
        for function in (is_graph, is_build, is_log):
            self.check(InvalidProject, function, [(["s"], ["s"]), None])

    def check(self, error, function, row):
        with self.assertRaises(RerunError) as caught:
            function(*row)
        self.assertIs(caught.exception.__class__, error)
        self.assertEqual(vars(caught.exception), {})


if __name__ == "__main__":
    unittest.main()
