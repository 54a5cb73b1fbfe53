"""Point [2] and the interface of reaching, plans and alike: names of registrations, arguments."""

import inspect
import unittest

import support
from waitnumbers import alike, plans, reaching
from waitnumbers.errors import NoRegistration
from waitnumbers.system import System

SIGNATURES = {
    reaching: {
        "is_reached": "(system, set_name, label)", "is_sealed": "(system, set_name, label)",
        "closings": "(system, set_name, label)",
    },
    plans: {
        "ending": "(system, set_name, label)", "shows_ending": "(system, set_name, label, calls)",
    },
    alike: {"is_quiet": "(system, set_name, label)", "alike": "(one, other)"},
}

ACTIONS = [
    reaching.is_reached, reaching.is_sealed, reaching.closings, plans.ending, alike.is_quiet,
    lambda system, set_name, label: plans.shows_ending(system, set_name, label, []),
    lambda system, set_name, label: plans.shows_ending(system, set_name, label, None),
    lambda system, set_name, label: plans.shows_ending(system, set_name, label, [("remove", 0, 0, 2)]),
]


class Interface(support.Case):
    def test_functions_stand_in_their_file(self):
        for module, wanted in SIGNATURES.items():
            for name, signature in wanted.items():
                made = getattr(module, name)
                self.assertTrue(inspect.isfunction(made))
                self.assertEqual(made.__module__, module.__name__)
                self.assertEqual(str(inspect.signature(made)), signature)

    def test_by_position_and_by_name(self):
        system = support.system_of("new_set 0; new_source 0; add 0 0 1 7 level; copy 0 1 2; close 0 1")
        for action in (reaching.is_reached, reaching.is_sealed, reaching.closings, plans.ending, alike.is_quiet):
            self.exactly(action(label=7, set_name=(0, 0), system=system), action(system, (0, 0), 7))
        row = plans.ending(system, (0, 0), 7)
        self.exactly(plans.shows_ending(calls=row, label=7, set_name=(0, 0), system=system), True)
        self.exactly(plans.shows_ending(system, (0, 0), 7, row), True)
        self.exactly(alike.alike(other=system, one=system.twin()), True)

    def test_no_defaults(self):
        system = support.system_of("new_set 0; new_source 0; add 0 0 1 7 level")
        for action in (
            lambda: reaching.is_reached(system, (0, 0)), lambda: reaching.closings(system),
            lambda: plans.shows_ending(system, (0, 0), 7), lambda: plans.ending(system, (0, 0), 7, None),
            lambda: alike.alike(system), lambda: alike.is_quiet(system, (0, 0), 7, 7),
        ):
            with self.assertRaises(TypeError):
                action()


class Names(support.Case):
    def setUp(self):
        # The set has the numbers 0:0, 0:1 and those of the process 1; its name is (0, 0).
        # The other set is (0, 4); the process 1 alone has the set (1, 1).
        self.system = support.system_of(
            "new_set 0; copy 0 0 1; new_source 0; copy 0 2 3; add 0 0 2 1 level; add 0 0 3 0 edge; "
            "new_set 0; add 0 4 2 7 once; fork 0; close 1 0; close 1 1; copy 1 4 0; close 1 4; new_set 1; "
            "add 1 1 2 5 level"
        )

    def wrong(self, set_name, label):
        for action in ACTIONS:
            told = {"set_name": set_name, "label": label}
            self.unchanged(self.system, NoRegistration, told, action, self.system, set_name, label)

    def test_right_names(self):
        for set_name, label in (((0, 0), 1), ((0, 0), 0), ((0, 4), 7), ((1, 1), 5)):
            for action in ACTIONS:
                action(self.system, set_name, label)

    def test_unknown_labels(self):
        for label in (7, 2, 5, 999999, 1000000, -1):
            self.wrong((0, 0), label)
        self.wrong((0, 4), 1)
        self.wrong((1, 1), 1)

    def test_other_numbers_of_the_set(self):
        self.wrong((0, 1), 1)
        self.wrong((1, 0), 7)

    def test_names_of_sources(self):
        self.wrong((0, 2), 1)
        self.wrong((0, 2), 7)
        self.wrong((0, 3), 1)

    def test_free_numbers_and_numbers_that_no_table_has(self):
        for set_name in ((0, 5), (0, 7), (0, 8), (0, -1), (0, -8), (0, 10 ** 19), (1, 5)):
            self.wrong(set_name, 1)

    def test_processes_that_are_not_alive(self):
        for process in (2, 3, 4, -1, 10 ** 19):
            self.wrong((process, 0), 1)

    def test_true_and_false_are_no_integers(self):
        for set_name in ((False, 0), (0, False), (False, False)):
            self.wrong(set_name, 1)
            self.wrong(set_name, 0)
        for set_name in ((True, 1), (1, True), (True, True)):
            self.wrong(set_name, 5)
        self.wrong((0, 0), True)
        self.wrong((0, 0), False)

    def test_any_objects(self):
        for junk in support.JUNK:
            self.wrong(junk, 1)
            self.wrong((0, 0), junk)
            self.wrong(junk, junk)
            self.wrong((junk, 0), 1)
            self.wrong((0, junk), 1)

    def test_what_is_nearly_a_name(self):
        for set_name in ([0, 0], (0,), (0, 0, 0), ((0, 0),), "0:0", "(0, 0)", ("0", "0"), 0, (0, None), ((0, 0), 0)):
            self.wrong(set_name, 1)
        for label in ("1", [1], (1,), None, "level"):
            self.wrong((0, 0), label)

    def test_a_registration_that_ended(self):
        self.system.remove(0, 0, 2)
        self.wrong((0, 0), 1)
        self.system.end(1)
        self.wrong((1, 1), 5)

    def test_names_go_with_the_tables(self):
        self.system.close(0, 0)
        self.wrong((0, 0), 1)
        self.exactly(reaching.is_reached(self.system, (0, 1), 1), True)

    def test_a_system_that_is_over(self):
        self.system.end(0)
        self.system.end(1)
        self.wrong((0, 0), 1)

    def test_before_the_calls_are_looked_at(self):
        for calls in [*support.JUNK, [("remove", 0, 0, 2)]]:
            self.unchanged(
                self.system, NoRegistration, {"set_name": (0, 0), "label": 99},
                plans.shows_ending, self.system, (0, 0), 99, calls,
            )


class Nothing(support.Case):
    """No function changes its arguments, and results depend on them alone."""

    def test_the_system_stays(self):
        system = support.system_of(
            "new_set 0; new_source 0; copy 0 1 2; add 0 0 1 7 level; add 0 0 2 8 once; arrive 0 1 3; new_source 0; "
            "add 0 0 3 9 edge; finish 0 3; wait 0 0 2; fork 0; close 1 1; copy 0 3 1"
        )
        before = support.shown(system)
        twin = system.twin()
        told = []
        for times in range(2):
            results = []
            for set_name, label, *rest in system.registrations():
                for action in ACTIONS[:5]:
                    results.append(action(system, set_name, label))
                row = plans.ending(system, set_name, label)
                results.append(plans.shows_ending(system, set_name, label, row))
            results.append(alike.alike(system, twin))
            results.append(alike.alike(system, System()))
            told.append(repr(results))
            self.assertEqual(support.shown(system), before)
            self.assertTrue(system == twin)
        self.assertEqual(told[0], told[1])

    def test_a_twin_gives_the_same_results(self):
        system = support.system_of("new_set 0; new_source 0; add 0 0 1 7 level; copy 0 1 2; close 0 1; new_source 0")
        wanted = [repr(action(system, (0, 0), 7)) for action in ACTIONS]
        twin = system.twin()
        system.end(0)
        self.assertEqual([repr(action(twin, (0, 0), 7)) for action in ACTIONS], wanted)


if __name__ == "__main__":
    unittest.main()
