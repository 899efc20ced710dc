"""Point 3: the errors, their fields, and which one comes first."""

import unittest

from tests.calls import CALLS, EXPLAINING, REFUSING, is_right
from tests.support import P, odd_values
from whyreran import errors
from whyreran.errors import InvalidProject, NotExplained, RerunError
from whyreran.explaining import find_obstruction
from whyreran.judging import is_obstruction
from whyreran.projects import is_build, is_graph, is_log

PLAIN = [
    "InvalidProject", "InvalidGraph", "InvalidBuild", "InvalidLog", "InvalidTarget", "InvalidName",
    "InvalidNames", "InvalidResults", "InvalidNumber", "InvalidMark", "InvalidCommand",
    "NothingToUndo",
]
FIELDS = {"NotExplained": "obstruction", "InvalidText": "position", "TooLarge": "limit"}

NEW = {"a": "new", "b": "new", "c": "new"}
IDLE = {"a": "idle", "b": "idle", "c": "idle"}
UNEXPLAINED = [
    [([], NEW)],
    [(["s"], dict(NEW, b="failed")), ([], IDLE)],
    [(["s"], dict(IDLE, a="same")), (["s"], dict(IDLE, c="same"))],
]


def wrong_values(function, error):
    return [value for value in odd_values() if not is_right(function, error, value)]


class TheClasses(unittest.TestCase):
    def test_the_base_is_a_value_error(self):
        self.assertEqual(RerunError.__bases__, (ValueError,))
        self.assertEqual(str(RerunError("why")), "why")

    def test_the_other_errors_are_direct_subclasses_of_the_base(self):
        for name in PLAIN + list(FIELDS):
            self.assertEqual(getattr(errors, name).__bases__, (RerunError,), name)

    def test_there_are_no_other_errors(self):
        found = [name for name in vars(errors) if isinstance(getattr(errors, name), type)]
        self.assertEqual(sorted(found), sorted(PLAIN + list(FIELDS) + ["RerunError"]))

    def test_errors_without_a_field_take_one_string(self):
        for name in PLAIN:
            self.assertEqual(str(getattr(errors, name)("some words")), "some words", name)

    def test_errors_with_a_field_store_it_under_its_name(self):
        for name, field in FIELDS.items():
            for value in [5, None, 0, ("group", {"a": 0}), ("idle", 1, "a")]:
                error = getattr(errors, name)(value)
                self.assertEqual(getattr(error, field), value)
                self.assertEqual(vars(error), {field: value})
                self.assertIsInstance(str(error), str)
                same = getattr(errors, name)(**{field: value})
                self.assertEqual(getattr(same, field), value)


class TheArguments(unittest.TestCase):
    def test_the_right_arguments_raise_nothing(self):
        for function, args, _ in CALLS:
            function(*args)

    def test_any_value_in_the_place_of_an_argument(self):
        for function, args, places in CALLS:
            for at, error in places:
                for value in wrong_values(function, error):
                    with self.subTest(function=function.__name__, at=at, value=repr(value)):
                        row = list(args)
                        row[at] = value
                        self.check(error, function, row)

    def test_of_two_wrong_arguments_the_first_one_counts(self):
        for function, args, places in CALLS:
            for first in range(len(places)):
                for second in range(first + 1, len(places)):
                    with self.subTest(function=function.__name__, first=first, second=second):
                        row = list(args)
                        row[places[first][0]] = None
                        row[places[second][0]] = None
                        self.check(places[first][1], function, row)

    def test_of_all_wrong_arguments_the_first_one_counts(self):
        for function, args, places in CALLS:
            for start in range(len(places)):
                row = list(args)
                for at, _ in places[start:]:
                    row[at] = object()
                self.check(places[start][1], function, row)

    def test_the_value_that_is_asked_about_raises_nothing(self):
        for function in (is_graph, is_build, is_log):
            for value in odd_values():
                expected = function is is_log and isinstance(value, list) and not value
                self.assertIs(function(P, value), expected, repr(value))
        for value in odd_values():
            self.assertIs(is_obstruction(P, [], value), False, repr(value))

    def test_the_project_is_checked_first_also_if_the_value_is_wrong(self):
        for function in (is_graph, is_build, is_log):
            self.check(InvalidProject, function, [(["s"], ["s"]), None])

    def check(self, error, function, row):
        with self.assertRaises(RerunError) as caught:
            function(*row)
        self.assertIs(caught.exception.__class__, error)
        self.assertEqual(vars(caught.exception), {})


class LogsThatNoGraphExplains(unittest.TestCase):
    def test_the_field_is_what_find_obstruction_returns(self):
        for log in UNEXPLAINED:
            expected = find_obstruction(P, log)
            self.assertIsNotNone(expected)
            for function, args, _ in CALLS:
                if function in EXPLAINING:
                    row = list(args)
                    row[1] = log
                    with self.assertRaises(NotExplained) as caught:
                        function(*row)
                    self.assertEqual(caught.exception.obstruction, expected, function.__name__)
                    self.assertEqual(vars(caught.exception), {"obstruction": expected})

    def test_no_other_function_raises_it(self):
        for log in UNEXPLAINED:
            for function, args, places in CALLS:
                if function not in EXPLAINING + REFUSING and (1, errors.InvalidLog) in places:
                    row = list(args)
                    row[1] = log
                    function(*row)

    def test_wrong_arguments_come_first(self):
        for function, args, places in CALLS:
            for at, error in places[2:]:
                if function in EXPLAINING:
                    row = list(args)
                    row[1] = UNEXPLAINED[0]
                    row[at] = None
                    with self.assertRaises(error):
                        function(*row)

    def test_a_changed_field_has_no_effect_on_later_errors(self):
        for function, args, _ in CALLS:
            if function in EXPLAINING:
                row = list(args)
                row[1] = UNEXPLAINED[0]
                for _ in range(2):
                    with self.assertRaises(NotExplained) as caught:
                        function(*row)
                    word, choices = caught.exception.obstruction
                    self.assertEqual((word, choices), ("group", {"a": 0, "b": 0, "c": 0}))
                    choices.clear()


if __name__ == "__main__":
    unittest.main()
