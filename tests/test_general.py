"""The general rules [1] and [2], and the errors [5], over all functions of the interface."""

import copy
import inspect
import itertools
import unittest

from wholesound import errors
from wholesound.checks import Check
from wholesound.errors import SoundError

from tests.calls import Told
from tests.morecalls import all_calls
from tests.odd import bent, frozen, lists_within, no_lists, no_numbers, plain, spoil, things
from tests.interface import CLASSES, MODULES, named


def error_of(function, arguments):
    try:
        function(**arguments)
    except SoundError as error:
        return error
    return None


class Refusals(unittest.TestCase):

    def refused(self, call, arguments, kind, told):
        error = error_of(call.function, arguments)
        self.assertIs(type(error), kind, (call.name(), arguments))
        self.assertIs(error.value, told, (call.name(), arguments))

    def wrong(self, call, name):
        kind, values = call.wrong[name]
        return [(kind, value.value, value.told) if isinstance(value, Told) else (kind, value, value) for value in values]

    def test_each_wrong_argument_is_refused_with_its_error(self):
        for call in all_calls():
            for name in call.wrong:
                for kind, value, told in self.wrong(call, name):
                    arguments = call.good()
                    arguments[name] = value
                    before = frozen(arguments)
                    self.refused(call, arguments, kind, told)
                    self.assertEqual(frozen(arguments), before)

    def test_of_two_wrong_arguments_the_first_is_told(self):
        for call in all_calls():
            names = [name for name in call.looked_at() if name in call.wrong]
            for first, second in itertools.combinations(names, 2):
                for kind, value, told in self.wrong(call, first):
                    for _, other, _ in self.wrong(call, second)[:3] + self.wrong(call, second)[-2:]:
                        arguments = call.good()
                        arguments[first] = value
                        arguments[second] = other
                        self.refused(call, arguments, kind, told)

    def test_all_arguments_wrong_at_once(self):
        for call in all_calls():
            names = [name for name in call.looked_at() if name in call.wrong]
            arguments = call.good()
            for name in names:
                arguments[name] = self.wrong(call, name)[0][1]
            kind, value, told = self.wrong(call, names[0])[0]
            self.refused(call, arguments, kind, told)

    def test_each_argument_but_a_judged_value_has_wrong_ones_in_the_table(self):
        for call in all_calls():
            left = [name for name in call.good() if name not in call.wrong]
            self.assertIn(left, ([], ["value"], ["plan"]), call.name())


class Calls(unittest.TestCase):

    def test_the_table_has_all_functions(self):
        wanted = {(module, name) for module, names in MODULES.items() for name in names}
        wanted -= {("errors", name) for name in MODULES["errors"]}
        got = {(call.function.__module__.split(".")[1], call.function.__name__) for call in all_calls()}
        self.assertEqual(got, wanted)

    def test_by_position_and_by_names_in_any_order(self):
        for call in all_calls():
            by_position = call.function(*call.good().values())
            for order in itertools.permutations(list(call.good().items())):
                self.assertEqual(frozen(call.function(**dict(order))), frozen(by_position), call.name())

    def test_some_by_position_and_some_by_name(self):
        for call in all_calls():
            whole = frozen(call.function(**call.good()))
            for many in range(len(call.good())):
                items = list(call.good().items())
                got = call.function(*[value for _, value in items[:many]], **dict(items[many:]))
                self.assertEqual(frozen(got), whole, call.name())

    def test_results_are_made_of_what_they_may_be_made_of(self):
        for call in all_calls():
            self.assertTrue(plain(call.function(**call.good())), call.name())

    def test_nothing_handed_in_is_changed(self):
        for call in all_calls():
            arguments = call.good()
            before = frozen(arguments)
            call.function(**arguments)
            self.assertEqual(frozen(arguments), before, call.name())

    def test_no_list_occurs_twice_or_is_one_that_was_handed_in(self):
        for call in all_calls():
            arguments = call.good()
            found = lists_within(call.function(**arguments)) + lists_within(list(arguments.values()))[1:]
            self.assertEqual(len({id(item) for item in found}), len(found), call.name())

    def test_equal_calls_tell_the_same_whatever_is_done_to_results(self):
        for call in all_calls():
            first = call.function(**call.good())
            told = frozen(first)
            spoil(first)
            self.assertEqual(frozen(call.function(**call.good())), told, call.name())

    def test_handed_lists_may_be_changed_behind_the_call(self):
        for call in all_calls():
            arguments = copy.deepcopy(call.good())
            result = call.function(**arguments)
            told = frozen(result)
            for value in arguments.values():
                spoil(value)
            self.assertEqual(frozen(result), told, call.name())

    def test_judges_take_any_value(self):
        for call in all_calls():
            judged = [name for name in call.good() if name not in call.wrong]
            for name in judged:
                arguments = call.good()
                self.assertIs(call.function(**arguments), True, call.name())
                for value in things() + no_numbers() + no_lists() + bent(arguments[name]):
                    told = call.function(**dict(arguments, **{name: value}))
                    self.assertIs(told, False, (call.name(), value))

    def test_whether_is_told_by_true_or_false(self):
        names = ["same_guess", "same_rests", "tells", "is_best_weight", "is_told", "is_shortest", "is_next_paper",
                 "is_shortest_whole", "same_mix", "same_within", "commute", "same_prices", "is_cuts_paper", "never_pays",
                 "is_right", "unseen", "all_odd", "is_fill", "also_right", "fits", "is_prices", "is_free", "is_keepable",
                 "same_marks", "same_growths", "is_lost_paper", "is_kept_paper", "is_most_paper", "is_table_paper",
                 "is_recovery", "is_fewest", "is_least_edit", "is_best_cuts", "is_least_spliced", "is_let"]
        for call in all_calls():
            if call.function.__name__ in names:
                self.assertIs(type(call.function(**call.good())), bool, call.name())


class Interface(unittest.TestCase):

    def test_names_are_defined_in_their_files(self):
        for module, names in MODULES.items():
            for name in names:
                found = named(module, name)
                self.assertEqual(found.__module__, "wholesound." + module)
                self.assertEqual(found.__name__, name)

    def test_names_of_arguments(self):
        for module, names in MODULES.items():
            for name, arguments in names.items():
                if arguments:
                    got = list(inspect.signature(named(module, name)).parameters)
                    self.assertEqual(got, arguments.split(), (module, name))

    def test_methods_stand_in_their_classes(self):
        for (module, name), methods in CLASSES.items():
            for method, arguments in methods.items():
                found = vars(named(module, name))[method]
                self.assertEqual(list(inspect.signature(found).parameters), ["self"] + arguments.split())


class Properties(unittest.TestCase):

    def test_those_of_a_check_are_read_only(self):
        check = Check(5, 9)
        self.assertEqual((check.width, check.low), (5, 9))
        for name in ("width", "low"):
            self.assertIsInstance(vars(Check)[name], property)
            self.assertRaises(AttributeError, setattr, check, name, 3)


class Errors(unittest.TestCase):

    def test_all_are_derived_from_one_that_is_a_value_error(self):
        self.assertEqual(errors.SoundError.__bases__, (ValueError,))
        for name in MODULES["errors"]:
            if name != "SoundError":
                self.assertEqual(getattr(errors, name).__bases__, (SoundError,), name)

    def test_fields(self):
        for name, arguments in MODULES["errors"].items():
            kind = getattr(errors, name)
            for field in arguments.split():
                value = [name]
                self.assertIs(getattr(kind(value), field), value)
                self.assertIs(getattr(kind(**{field: value}), field), value)
                self.assertIsNone(getattr(kind(), field))
                self.assertEqual(list(vars(kind())), [field])
                self.assertRaises(TypeError, kind, 1, 2)
            if arguments == "":
                self.assertEqual(vars(kind()), {})

    def test_they_can_be_raised_and_caught(self):
        for name in MODULES["errors"]:
            kind = getattr(errors, name)
            with self.assertRaises(ValueError):
                raise kind()
            with self.assertRaises(errors.SoundError):
                raise kind()


if __name__ == "__main__":
    unittest.main()
