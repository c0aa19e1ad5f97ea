"""What holds for the calls of all functions: lists for tuples, names, arguments
left as they are, new lists, Unfit for each wrong argument."""

import copy

from eachhandtied.errors import Unfit
from tests.walks import listed
from tests.wrong import raised


def listed_at(value, depth):
    """value with lists for those tuples in it alone that lie so deep."""
    if not isinstance(value, tuple):
        return value
    told = [listed_at(own, depth - 1) for own in value]
    return told if depth == 0 else tuple(told)


def as_lists(arguments, told=listed):
    """The arguments with lists for tuples, but for thing."""
    return {name: worth if name == "thing" else told(worth) for name, worth in arguments.items()}


class CallChecks:
    """To be held with calls, a list of pairs of a function and its arguments by
    names in their order; wrong, a dict of wrong values by the names of arguments,
    or by pairs of the names of a function and an argument; lists, a set of the
    names of the functions that tell a list."""

    calls, wrong, lists = [], {}, set()

    def test_lists_names_and_once_more(self):
        for call, arguments in self.calls:
            with self.subTest(call=call.__name__):
                came = repr(call(*arguments.values()))
                self.assertEqual(repr(call(**arguments)), came)
                self.assertEqual(repr(call(**as_lists(arguments))), came)
                self.assertEqual(repr(call(*arguments.values())), came)
                for depth in range(4):
                    told = as_lists(arguments, lambda worth: listed_at(worth, depth))
                    self.assertEqual(repr(call(**told)), came)

    def test_arguments_are_left_as_they_are(self):
        for call, arguments in self.calls:
            with self.subTest(call=call.__name__):
                told = as_lists(arguments)
                kept = copy.deepcopy(told)
                call(**told)
                self.assertEqual(repr(told), repr(kept))

    def test_results_are_new_lists_or_hold_no_list(self):
        for call, arguments in self.calls:
            with self.subTest(call=call.__name__):
                came = call(**as_lists(arguments))
                self.assertEqual(isinstance(came, list), call.__name__ in self.lists)
                if isinstance(came, list):
                    came.append(None)
                    self.assertNotEqual(call(**arguments), came)
                    came.pop()
                self.assertNotIn("[", repr(came)[1:])

    def test_each_unfit_argument(self):
        for call, arguments in self.calls:
            for name in arguments:
                wrong = self.wrong.get((call.__name__, name), self.wrong.get(name, []))
                self.assertTrue(wrong or name not in ("web", "side", "tree", "order", "row", "tie"))
                for worth in wrong:
                    with self.subTest(call=call.__name__, name=name, worth=worth):
                        self.assertIsInstance(raised(lambda: call(**{**arguments, name: worth})), Unfit)
                        told = {**as_lists(arguments), name: listed(worth)}
                        self.assertIsInstance(raised(lambda: call(**told)), Unfit)

    def test_things_of_the_calls_are_such(self):
        deep = ()
        for _ in range(19):
            deep = (deep, [1])
        for call, arguments in self.calls:
            if "thing" in arguments:
                with self.subTest(call=call.__name__):
                    self.assertIs(call(**arguments), True)
                    for thing in (listed(arguments["thing"]), deep, [[], None, True, ("x", -7), [[[1]]]]):
                        self.assertIs(call(**{**arguments, "thing": thing}), False)
                    self.assertIs(call(**{**arguments, "thing": (deep,) * len(arguments["thing"])}), False)

    def test_a_thing_saves_no_wrong_argument(self):
        for call, arguments in self.calls:
            if "thing" in arguments:
                for name in arguments:
                    wrong = self.wrong.get((call.__name__, name), self.wrong.get(name, []))
                    for worth in wrong[:4]:
                        told = {**arguments, "thing": None, name: worth}
                        self.assertIs(type(raised(lambda: call(**told))), Unfit)

    def test_lists_without_an_end_are_unfit(self):
        endless = []
        endless.append(endless)
        for call, arguments in self.calls:
            for name in [name for name in arguments if name in self.wrong]:
                for worth in (endless, [endless] * 3, [[endless, 1]] * 5, [0, 0, 1, endless]):
                    told = {**arguments, name: worth}
                    self.assertIs(type(raised(lambda: call(**told))), Unfit)
