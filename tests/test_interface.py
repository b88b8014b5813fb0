"""The interface: each name in its file, with its arguments; and what holds for the whole program (0.2 to 0.4)."""

import ast
import importlib
import inspect
import pathlib
import unittest

from helpers import untouched
from limit_words import ALL, to
from lossbars import errors
from machine_words import COUNT, TILL

FOLDER = pathlib.Path(__file__).resolve().parent.parent / "lossbars"
LISTED = """
sorts: check_sort(value); components(sort)
values: value_of(sort, data); is_value(sort, value); ordered(sort, values); holds(sort, v, u); places(sort, v, u)
values: least_values(sort); size(sort, value)
texts: sort_text(sort); value_text(sort, value); read_sort(text); read_value(sort, text)
leasts: least(sort, some); is_in(sort, some, v); contains(sort, some, others); is_least(sort, value)
leasts: together(sort, some, others); both_held(sort, v, u); common(sort, some, others); ways(sort, v, u)
limits: shaped(sort, data); is_limit(sort, value); ordered_limits(sort, limits); limit_list(sort, limits)
limits: is_inside(sort, limit, v); lies_within(sort, one, two); limit_of(sort, v); everything(sort)
meets: met_limits(sort, one, two)
outsides: beyond(sort, v); outside(sort, some, *, limits=60); least_outside(sort, limits, *, values=60)
acts: check_act(sort, act); results(sort, act, v)
backward: back(sort, act, b); back_list(sort, act, some)
forward: forth(sort, act, limit); forth_list(sort, act, limits)
machines: without(machine, names); is_position(machine, value); holds_position(machine, one, other)
machines: least_positions(machine, some); holds_one(machine, some, position); starts_at(machine, some)
machines: inside_of(machine, limits, position); joined(machine, limits)
runs: steps(machine, position); stand_of(machine, position, path); judge_path(machine, position, value)
runs: judge_run(machine, starts, bad, value)
layers: layers(machine, starts, k, *, limits=60); way_to(machine, starts, k, position, *, limits=60)
rounds: rounds_to(machine, bad, k, *, positions=24); decide(machine, starts, bad, *, positions=24, rounds=16)
rounds: met(machine, starts, some)
engines: one_by_one(machine, starts, bad, way, *, taken=60); judge_log(machine, bad, value); list_behind(machine, bad, log)
bars: judge_bar(machine, starts, bad, value)
cheap: price_of(machine, prices, path); cheapest(machine, prices, starts, bad, *, positions=24, rounds=16)
cheap: dear(machine, prices, bad, price, *, positions=24); judge_dear(machine, prices, starts, bad, price, value)
shields: shield_of(machine, bar, *, limits=24); bar_of(machine, shield, *, values=24)
shields: judge_shield(machine, starts, bad, value); bars_together(machine, one, two); bars_common(machine, one, two)
shields: shields_common(machine, one, two, *, limits=24); stronger(machine, one, two); thinned(machine, starts, bad, shield)
growing: grown(machine, starts, bad, *, limits=24, rounds=16)
endings: ends(machine, position, *, knots=100); within(machine, position, some, *, knots=100)
endings: longest(machine, position, *, knots=100)
trees: judge_tree(machine, position, value); judge_ring(machine, position, value)
trees: judge_tree_within(machine, position, some, value); judge_ring_within(machine, position, some, value)
trees: branch(value, number); depth(value)
maps: led_sort(sort, change); led_value(sort, change, v); led_limit(sort, change, limit); led_act(sort, change, act)
maps: led_machine(machine, change); led_starts(machine, change, starts); led_positions(machine, change, some)
maps: led_run(machine, change, run); led_back(sort, change, some); led_bar(machine, change, bar)
changes: renamed(machine, states, rules); beside(one, other); beside_state(one, other, x, y)
changes: beside_rule(one, other, side, name, state); beside_starts(one, other, starts, others)
changes: lifted_run(one, other, side, run, position); lifted_bar(one, other, side, bar)
changes: fewest_taken(machine, starts, bad, marked)
branches: elders(house, number); last_common(house, one, other); come_of(house, number); line_to(house, number)
branches: attempt(house, action); tried(house, deeds)
watching: answer(house, number, start); verdict(house, number, start); answers(house, number)
watching: judge_verdict(machine, bad, start, value); right_at(house, start, value); would_change(house, deeds)
"""
CLASSES = {
    ("machines", "Machine"): "__init__(self, sort, states, rules); kind(self); states(self); rules(self); rule(self, name); "
                             "__contains__(self, name); __len__(self); __eq__(self, other)",
    ("house", "House"): "__init__(self, sort, states); kind(self); states(self); do(self, deed); undo(self); redo(self); branch(self, name); "
                        "go(self, name); merge(self, name); present(self); here(self); branches(self); trail(self, name); mark(self, name); "
                        "log(self); __len__(self); moment(self, number); now(self); machine_at(self, number); __eq__(self, other); twin(self)",
}
ERRORS = {
    "LossError": {"TooMany": (), "BadDeed": (), "NothingDone": (), "BadSort": ("path",), "BadValue": ("path",), "BadLimit": ("path",),
                  "BadAct": ("path",), "BadName": ("name",), "TwiceTold": ("name",), "BadPosition": ("number",), "Clash": ("spots",), "BadText": ("place",)},
    "NameMissing": {"UnknownName": ("name",), "NoMoment": ("number",)},
}


def listed():
    for line in LISTED.strip().split("\n"):
        module, _, calls = line.partition(": ")
        for call in calls.split("; "):
            yield module, call.partition("(")[0], "(" + call.partition("(")[2]


class Interface(unittest.TestCase):

    def test_functions(self):
        for module, name, arguments in listed():
            found = getattr(importlib.import_module(f"lossbars.{module}"), name)
            self.assertEqual((found.__module__, found.__name__), (f"lossbars.{module}", name))
            self.assertEqual(str(inspect.signature(found)), arguments, name)

    def test_classes(self):
        for (module, name), methods in CLASSES.items():
            found = getattr(importlib.import_module(f"lossbars.{module}"), name)
            self.assertEqual(found.__module__, f"lossbars.{module}")
            for method in methods.split("; "):
                word, _, arguments = method.partition("(")
                told = vars(found)[word]
                told = told.fget if isinstance(told, property) else told
                self.assertEqual(str(inspect.signature(told)), "(" + arguments, f"{name}.{word}")
            self.assertIsInstance(vars(found)["kind"], property)

    def test_errors(self):
        self.assertEqual((errors.LossError.__bases__, errors.NameMissing.__bases__), ((ValueError,), (LookupError,)))
        for base, told in ERRORS.items():
            for name, arguments in told.items():
                found = getattr(errors, name)
                self.assertEqual(found.__bases__, (getattr(errors, base),))
                made = found(*[("kept", argument) for argument in arguments])
                self.assertEqual(vars(made), {argument: ("kept", argument) for argument in arguments})

    def test_all_of_the_interface_is_there(self):
        files = {path.stem for path in FOLDER.glob("*.py")}
        self.assertLessEqual({module for module, _, _ in listed()} | {"errors", "house"}, files)
        self.assertGreater(len(list(listed())), 100)


class Whole(unittest.TestCase):

    def test_no_clock_no_random_numbers_no_files(self):
        for path in FOLDER.glob("*.py"):
            for node in ast.walk(ast.parse(path.read_text())):
                if isinstance(node, ast.ImportFrom):
                    self.assertTrue(node.module.startswith("lossbars.") or node.module in ("math", "itertools"), path.name)
                self.assertNotIsInstance(node, ast.Import, path.name)

    def test_tuples_for_lists(self):
        # All lists of one call at once, for calls whose own tests hand in lists.
        from lossbars.cheap import cheapest, judge_dear
        from lossbars.machines import Machine, inside_of, joined, least_positions, without
        from lossbars.rounds import decide, met
        from lossbars.shields import bars_common, judge_shield, shields_common
        starts, bad = [("s", to(2)), ("s", ALL)], [("s", 9), ("s", 7)]
        for call, *given in [(least_positions, TILL, bad), (joined, TILL, starts), (inside_of, TILL, starts, ("s", 1)), (decide, TILL, starts, bad),
                             (met, TILL, starts, bad), (cheapest, TILL, [1, 2], starts, bad), (judge_dear, TILL, [1, 2], starts, bad, 0, ()),
                             (judge_shield, TILL, starts, bad, starts), (bars_common, TILL, bad, bad), (shields_common, TILL, starts, starts),
                             (without, TILL, ["up"])]:
            turned = [tuple(part) if isinstance(part, list) else part for part in given]
            self.assertEqual(untouched(call, *turned), untouched(call, *given))
        self.assertEqual(Machine(COUNT, ("s",), tuple(TILL.rules())), TILL)


if __name__ == "__main__":
    unittest.main()
