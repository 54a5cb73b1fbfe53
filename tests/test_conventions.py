"""Point [2] and the head of the interface: arguments, any objects, errors, lists."""

import inspect
import unittest

import support
from waitnumbers import alike, calls, console, crews, errors, experiments, plans, reaching, strays
from waitnumbers.calls import answers, read_calls, show_calls
from waitnumbers.errors import NoProcess, NotOpen
from waitnumbers.system import System

SIGNATURES = {
    "new_source": "(self, process)",
    "new_set": "(self, process)",
    "copy": "(self, process, number, to=None)",
    "close": "(self, process, number)",
    "fork": "(self, process)",
    "end": "(self, process)",
    "arrive": "(self, process, number, many=1)",
    "finish": "(self, process, number)",
    "read": "(self, process, number, many=None)",
    "add": "(self, process, set_number, number, label, *, word='level')",
    "change": "(self, process, set_number, number, *, word)",
    "remove": "(self, process, set_number, number)",
    "wait": "(self, process, set_number, most=1)",
    "numbers": "(self, process)",
    "same": "(self, process, number, other, other_number)",
    "units": "(self, process, number)",
    "alive": "(self)",
    "name": "(self, process, number)",
    "registrations": "(self)",
    "row_of": "(self, process, set_number)",
    "twin": "(self)",
    "answer": "(self, call)",
    "__init__": "(self, *, processes=4, numbers=8)",
}

ERRORS = {
    LookupError: {
        "NoProcess": ["process"], "NotOpen": ["number"], "NoNumber": ["number"],
        "NotRegistered": ["number"], "NoRegistration": ["set_name", "label"],
    },
    TypeError: {
        "NotASource": ["number"], "NotASet": ["number"], "BadCall": ["call"],
        "BadStep": ["worker", "step"],
    },
    ValueError: {
        "BadCount": ["count"], "BadLabel": ["label"], "BadWord": ["word"], "BadLimit": ["limit"],
        "BadPlace": ["place"], "BadText": ["line"], "BadCommand": ["command"],
    },
    OverflowError: {"Full": ["process"], "NoRoom": [], "TooMany": ["limit"]},
    RuntimeError: {
        "Finished": ["number"], "Registered": ["number"], "Taken": ["label"],
        "NotPossible": ["index"],
    },
}


class Errors(support.Case):
    def test_bases_constructors_and_attributes(self):
        for base, classes in ERRORS.items():
            for name, attributes in classes.items():
                made = getattr(errors, name)
                self.assertEqual(made.__bases__, (base,))
                self.assertEqual(made.__module__, "waitnumbers.errors")
                given = [[attribute, True] for attribute in attributes]
                for error in (made(*given), made(**dict(zip(attributes, given)))):
                    self.exactly(vars(error), dict(zip(attributes, given)))
                    # A message of its own, which is not left to Python.
                    self.assertEqual([str(error)], list(error.args))
                with self.assertRaises(TypeError):
                    made(*given, 1)

    def test_only_the_listed_classes(self):
        listed = {name for classes in ERRORS.values() for name in classes}
        self.assertEqual({name for name in vars(errors) if not name.startswith("_")}, listed)

    def test_an_error_keeps_any_object(self):
        for junk in support.JUNK:
            self.exactly(errors.BadCall(junk).call, junk)


class Interface(support.Case):
    def test_methods_stand_in_the_class_itself(self):
        for name, signature in SIGNATURES.items():
            self.assertEqual(str(inspect.signature(vars(System)[name])), signature)
        for name in ("__eq__", "__len__", "__bool__", "__contains__", "__repr__"):
            self.assertIn(name, vars(System))
        self.assertIsInstance(vars(System)["limits"], property)
        self.assertIsInstance(vars(System)["played"], classmethod)
        self.assertEqual(str(inspect.signature(System.played)), "(calls, *, processes=4, numbers=8)")
        self.assertEqual(System.__module__, "waitnumbers.system")

    def test_other_classes(self):
        wanted = {
            crews.Crew: {
                "__init__": "(self, system, *workers)", "possible": "(self)", "after": "(self, index)",
                "is_stray": "(self, index)", "done": "(self, schedule)", "taken": "(self, worker)",
                "made": "(self, worker)", "system": "(self)", "__eq__": "(self, other)", "__len__": "(self)",
            },
            console.Console: {"__init__": "(self, *, processes=4, numbers=8)", "say": "(self, command)"},
        }
        for made, methods in wanted.items():
            for name, signature in methods.items():
                self.assertEqual(str(inspect.signature(vars(made)[name])), signature)
        self.assertEqual([made.__module__ for made in wanted], ["waitnumbers.crews", "waitnumbers.console"])

    def test_functions_stand_in_their_file(self):
        named = "(system, set_name, label)"
        wanted = {
            calls: {
                "answers": "(system, calls)", "show_call": "(call)", "read_call": "(text)",
                "show_calls": "(calls)", "read_calls": "(text)", "show_answer": "(answer)",
            },
            reaching: {"is_reached": named, "is_sealed": named, "closings": named},
            plans: {"ending": named, "shows_ending": "(system, set_name, label, calls)"},
            alike: {"is_quiet": named, "alike": "(one, other)"},
            experiments: {"parting": "(one, other)", "shows_parting": "(one, other, calls)"},
            strays: {
                "least_stray": "(crew)", "counted": "(crew)", "with_removals": "(crew, places)",
                "fewest_removals": "(crew)",
            },
        }
        for module, functions in wanted.items():
            for name, signature in functions.items():
                made = getattr(module, name)
                self.assertEqual(made.__module__, module.__name__)
                self.assertEqual(str(inspect.signature(made)), signature)


class Arguments(support.Case):
    def test_by_position_and_by_name(self):
        one = System(processes=3, numbers=5)
        two = System(numbers=5, processes=3)
        one.new_set(0), two.new_set(process=0)
        one.new_source(0), two.new_source(process=0)
        one.arrive(0, 1, 3), two.arrive(process=0, number=1, many=3)
        one.add(0, 0, 1, 7, word="edge"), two.add(process=0, set_number=0, number=1, label=7, word="edge")
        one.change(0, 0, 1, word="once"), two.change(process=0, set_number=0, number=1, word="once")
        self.exactly(one.wait(0, 0, 2), two.wait(process=0, set_number=0, most=2))
        self.exactly(one.read(0, 1, 2), two.read(process=0, number=1, many=2))
        self.exactly(one.units(0, 1), two.units(process=0, number=1))
        self.exactly(one.fork(0), two.fork(process=0))
        self.exactly(one.same(0, 1, 1, 1), two.same(process=0, number=1, other=1, other_number=1))
        self.exactly(one.numbers(1), two.numbers(process=1))
        self.exactly(one.name(1, 0), two.name(process=1, number=0))
        self.exactly(one.row_of(1, 0), two.row_of(process=1, set_number=0))
        one.finish(0, 1), two.finish(process=0, number=1)
        one.close(1, 0), two.close(process=1, number=0)
        one.end(1), two.end(process=1)
        self.exactly(one.answer(("numbers", 0)), two.answer(call=("numbers", 0)))
        self.assertTrue(one == two)
        self.exactly(answers(one, [("fork", 0)]), answers(system=two, calls=[("fork", 0)]))
        self.assertTrue(one == two)
        self.assertTrue(System.played(calls=[], numbers=5, processes=3) == System(processes=3, numbers=5))

    def test_names_only_behind_the_star(self):
        system = System()
        for action in (
            lambda: System(4),
            lambda: System(4, 8),
            lambda: System.played([], 4),
            lambda: system.add(0, 0, 1, 7, "edge"),
            lambda: system.change(0, 0, 1, "edge"),
            lambda: system.change(0, 0, 1),
        ):
            with self.assertRaises(TypeError):
                action()

    def test_defaults(self):
        system = System()
        self.exactly(system.limits, (4, 8))
        system.new_set(0)
        system.new_source(0)
        system.add(0, 0, 1, 7)
        self.exactly(system.registrations(), [((0, 0), 7, 1, (0, 1), "level", True)])
        system.arrive(0, 1)
        self.exactly(system.units(0, 1), (1, False))
        system.arrive(0, 1, 4)
        system.copy(0, 1)
        system.add(0, 0, 2, 8)
        self.exactly(system.wait(0, 0), [(7, 5, False)])
        self.exactly(system.read(0, 1), 5)


class AnyObjects(support.Case):
    def setUp(self):
        # The process 1 is alive and the number 1 is open, so True must not be them.
        self.system = System.played([
            ("new_set", 0), ("new_source", 0), ("new_source", 0), ("fork", 0),
            ("add", 0, 0, 1, 1, "level"), ("arrive", 0, 1, 1),
        ])

    def test_as_a_process(self):
        actions = [
            lambda x: self.system.new_source(x), lambda x: self.system.new_set(x),
            lambda x: self.system.copy(x, 1), lambda x: self.system.close(x, 1),
            lambda x: self.system.fork(x), lambda x: self.system.end(x),
            lambda x: self.system.arrive(x, 1), lambda x: self.system.finish(x, 1),
            lambda x: self.system.read(x, 1), lambda x: self.system.add(x, 0, 2, 5),
            lambda x: self.system.change(x, 0, 1, word="edge"), lambda x: self.system.remove(x, 0, 1),
            lambda x: self.system.wait(x, 0), lambda x: self.system.numbers(x),
            lambda x: self.system.same(x, 1, 1, 1), lambda x: self.system.same(0, 1, x, 1),
            lambda x: self.system.units(x, 1), lambda x: self.system.name(x, 1),
            lambda x: self.system.row_of(x, 0),
        ]
        for action in actions:
            for junk in support.JUNK + [2, 4, 100]:
                self.unchanged(self.system, NoProcess, {"process": junk}, action, junk)

    def test_as_a_number(self):
        actions = [
            lambda x: self.system.copy(1, x), lambda x: self.system.close(1, x),
            lambda x: self.system.arrive(1, x), lambda x: self.system.finish(1, x),
            lambda x: self.system.read(1, x), lambda x: self.system.add(1, x, 2, 5),
            lambda x: self.system.add(1, 0, x, 5), lambda x: self.system.change(1, x, 1, word="edge"),
            lambda x: self.system.change(1, 0, x, word="edge"), lambda x: self.system.remove(1, x, 1),
            lambda x: self.system.remove(1, 0, x), lambda x: self.system.wait(1, x),
            lambda x: self.system.same(1, x, 1, 1), lambda x: self.system.same(1, 1, 1, x),
            lambda x: self.system.units(1, x), lambda x: self.system.name(1, x),
            lambda x: self.system.row_of(1, x),
        ]
        for action in actions:
            for junk in support.JUNK + [3, 7, 8, -3]:
                self.unchanged(self.system, NotOpen, {"number": junk}, action, junk)

    def test_in_every_place_of_every_call(self):
        for call in support.PLAIN_CALLS:
            for at in range(1, len(call)):
                for junk in support.JUNK:
                    system = System.played([("new_source", 0), ("new_source", 0)])
                    answer = system.answer((*call[:at], junk, *call[at + 1:]))
                    allowed = call[0] in ("copy", "read") and at == 3 and junk is None
                    self.assertEqual(isinstance(answer, str), not allowed, (call, at, junk))

    def test_in_the_system(self):
        self.assertTrue(0 in self.system)
        self.assertTrue(1 in self.system)
        for junk in support.JUNK + [2, 3, 4, 5]:
            self.exactly(junk in self.system, False)


class ListsAndResults(support.Case):
    def test_every_returned_list_is_new(self):
        system = System.played([
            ("new_set", 0), ("new_source", 0), ("add", 0, 0, 1, 7, "level"), ("arrive", 0, 1, 2),
        ])
        before = support.shown(system)
        for look in (
            lambda: system.alive(), lambda: system.numbers(0), lambda: system.registrations(),
            lambda: system.row_of(0, 0), lambda: system.wait(0, 0),
            lambda: system.answer(("numbers", 0)), lambda: answers(system, [("numbers", 0)]),
        ):
            got = look()
            wanted = repr(got)
            got.append("mine")
            got.reverse()
            self.assertEqual(repr(look()), wanted)
            self.assertEqual(support.shown(system), before)

    def test_lists_of_answers_and_of_texts_are_new(self):
        system = System()
        got = answers(system, [])
        got.append(1)
        self.exactly(answers(system, []), [])
        for text in ("", "fork 0"):
            read = read_calls(text)
            wanted = repr(read)
            read.append(1)
            self.assertEqual(repr(read_calls(text)), wanted)

    def test_no_function_changes_its_arguments(self):
        row = [("new_set", 0), ("new_source", 0), ("add", 0, 0, 1, 7, "level"), ("wait", 0, 0, 1)]
        kept = list(row)
        System.played(row)
        answers(System(), row)
        show_calls(row)
        self.exactly(row, kept)

    def test_the_callers_row_is_not_kept(self):
        row = [("new_set", 0)]
        system = System.played(row)
        row.append(("new_set", 0))
        self.exactly(system.numbers(0), [(0, "set")])

    def test_results_depend_on_the_calls_alone(self):
        row = support.PLAIN_CALLS * 3
        first = answers(System(), row)
        answers(System(), list(reversed(row)))
        self.exactly(answers(System(), row), first)
        self.exactly(answers(System(), tuple(row)), first)


if __name__ == "__main__":
    unittest.main()
