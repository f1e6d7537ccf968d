"""Points 1 to 4 over the whole program, by the calls of tests/test_apart.py: all functions with many arguments."""

import copy
import importlib
import inspect
import unittest

from seamlayers import errors
from seamlayers.book import Book
from seamlayers.kinds import Kind

from tests import test_apart
from tests.reference import Chance
from tests.support import lists_in, shape, spoil
from tests.test_interface import FUNCTIONS, signatures


def all_calls():
    """The calls that the tests of test_apart.py make, without what they ask of them."""
    calls = []

    class Collected(test_apart.Calls):
        def assert_apart(self, function, arguments):
            calls.append((function, copy.deepcopy(arguments)))

    for name in dir(Collected):
        if name.startswith("test_"):
            getattr(Collected(name), name)()
    return calls


CALLS = all_calls()
# Those of the functions of the interface, without methods and helpers of the tests.
PUBLIC = [(function, arguments) for function, arguments in CALLS if function.__qualname__.isidentifier()]


def told_by(function, arguments):
    """What a call returns, or raises, as its shape."""
    try:
        return shape(function(*arguments))
    except errors.SeamError as caught:
        return shape(caught)


def is_made_of_allowed(value):
    """Whether a value is made of what point 2 says of all that is returned."""
    if isinstance(value, (list, tuple)):
        return type(value) in (list, tuple) and all(is_made_of_allowed(item) for item in value)
    return value is None or type(value) in (bool, int, str, Kind, Book)


class Whole(unittest.TestCase):
    def test_all_functions_of_the_interface_are_called(self):
        called = {(function.__module__, function.__name__) for function, _ in CALLS}
        for module_name, text in FUNCTIONS.items():
            for name, _ in signatures(text):
                self.assertIn(("seamlayers." + module_name, name), called)

    def test_by_position_and_by_names(self):
        for function, arguments in PUBLIC[::3]:
            names = list(inspect.signature(function).parameters)
            named = dict(zip(names, arguments))
            backwards = {name: named[name] for name in reversed(names)}
            self.assertEqual(shape(function(**backwards)), shape(function(*arguments)), function.__name__)

    def test_what_is_returned(self):
        for function, arguments in CALLS:
            result = function(*copy.deepcopy(arguments))
            self.assertTrue(is_made_of_allowed(result), (function.__name__, arguments, result))
            found = lists_in(result)
            self.assertEqual(len({id(one) for one in found}), len(found))

    def test_calls_between_other_calls(self):
        alone = [told_by(function, copy.deepcopy(arguments)) for function, arguments in CALLS]
        chance = Chance(2026)
        for _ in range(len(CALLS) // 2):
            at, other = chance.below(len(CALLS)), chance.below(len(CALLS))
            function, arguments = CALLS[at][0], copy.deepcopy(CALLS[at][1])
            # Arguments that were handed to other calls, and results of them, are changed in between.
            between = copy.deepcopy(CALLS[other][1])
            spoil(CALLS[other][0](*between))
            self.assertEqual(told_by(function, arguments), alone[at])
            spoil(between)
            spoil(arguments)
            self.assertEqual(told_by(function, copy.deepcopy(CALLS[at][1])), alone[at])

    def test_one_argument_changed_between_two_calls(self):
        for function, arguments in CALLS[::2]:
            given = copy.deepcopy(arguments)
            told = told_by(function, given)
            kept = copy.deepcopy(given)
            for one in lists_in(given):
                one.append("spoilt")
            told_by(function, given)
            for one in lists_in(given):
                one.pop()
            self.assertEqual(shape(given), shape(kept))
            self.assertEqual(told_by(function, given), told)

    def test_refused_calls_change_nothing(self):
        for function, arguments in PUBLIC[::3]:
            for at in range(len(arguments)):
                for wrong in (None, "no", -1, [None], {}, ()):
                    given = copy.deepcopy(arguments[:at]) + (wrong,) + copy.deepcopy(arguments[at + 1:])
                    before = shape(given)
                    try:
                        function(*given)
                    except errors.TooMany as caught:
                        self.assertIsInstance(caught.value, int)
                    except errors.Unlike as caught:
                        self.assertTrue(any(caught.value is one for one in given))
                    except errors.SeamError as caught:
                        self.assertTrue(caught.value is wrong or [caught.value] == wrong or caught.value in arguments,
                                        (function.__name__, given, caught.value))
                    self.assertEqual(shape(given), before)

    def test_no_function_takes_a_boolean_for_a_number(self):
        for function, arguments in PUBLIC[::2]:
            for at, argument in enumerate(arguments):
                name = list(inspect.signature(function).parameters)[at]
                if type(argument) is int and argument in (0, 1) and name not in ("value",):
                    given = copy.deepcopy(arguments[:at]) + (bool(argument),) + copy.deepcopy(arguments[at + 1:])
                    with self.assertRaises(errors.InvalidNumber, msg=function.__name__) as caught:
                        function(*given)
                    self.assertIs(caught.exception.value, bool(argument))

    def test_every_public_name_stands_in_its_file(self):
        for module_name, text in FUNCTIONS.items():
            module = importlib.import_module("seamlayers." + module_name)
            for name, _ in signatures(text):
                self.assertIs(inspect.getmodule(getattr(module, name)), module)


if __name__ == "__main__":
    unittest.main()
