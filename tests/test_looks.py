"""Points [11] and [13]: looks, names, equal systems, twins, and the class's own signs."""

import unittest

import support
from waitnumbers.errors import NoProcess, NotOpen
from waitnumbers.system import System

START = [
    ("new_set", 0), ("new_source", 0), ("new_source", 0), ("copy", 0, 1, 5), ("fork", 0),
    ("add", 0, 0, 1, 7, "level"), ("add", 0, 0, 2, 8, "edge"), ("arrive", 0, 2, 3), ("arrive", 0, 1, 1),
]


class Looks(support.Case):
    def setUp(self):
        self.system = System.played(START)

    def test_numbers(self):
        self.exactly(self.system.numbers(0), [(0, "set"), (1, "source"), (2, "source"), (5, "source")])
        self.system.close(1, 1)
        self.exactly(self.system.numbers(1), [(0, "set"), (2, "source"), (5, "source")])

    def test_same(self):
        self.exactly(self.system.same(0, 1, 0, 5), True)
        self.exactly(self.system.same(0, 1, 1, 5), True)
        self.exactly(self.system.same(0, 0, 1, 0), True)
        self.exactly(self.system.same(0, 2, 0, 2), True)
        self.exactly(self.system.same(0, 1, 1, 2), False)
        self.exactly(self.system.same(0, 0, 0, 1), False)
        self.system.close(0, 2)
        self.system.new_source(0)
        self.exactly(self.system.same(0, 2, 1, 2), False)

    def test_same_and_its_errors_in_order(self):
        same = self.system.same
        self.unchanged(self.system, NoProcess, {"process": 2}, same, 2, 9, 3, 8)
        self.unchanged(self.system, NotOpen, {"number": 9}, same, 0, 9, 3, 8)
        self.unchanged(self.system, NoProcess, {"process": 3}, same, 0, 0, 3, 8)
        self.unchanged(self.system, NotOpen, {"number": 8}, same, 0, 0, 1, 8)

    def test_units(self):
        self.exactly(self.system.units(1, 2), (3, False))
        self.system.finish(1, 5)
        self.exactly(self.system.units(0, 1), (1, True))

    def test_looks_change_nothing(self):
        twin = self.system.twin()
        self.system.numbers(0)
        self.system.same(0, 0, 1, 1)
        self.system.units(0, 1)
        self.system.row_of(0, 0)
        self.system.registrations()
        self.assertTrue(self.system == twin)


class Names(support.Case):
    def setUp(self):
        self.system = System.played(START)

    def test_the_least_number_names_a_thing(self):
        self.exactly(self.system.name(0, 5), (0, 1))
        self.exactly(self.system.name(1, 5), (0, 1))
        self.exactly(self.system.name(1, 0), (0, 0))
        self.system.close(0, 1)
        self.exactly(self.system.name(1, 1), (0, 5))
        self.system.close(0, 5)
        self.exactly(self.system.name(1, 5), (1, 1))
        self.unchanged(self.system, NoProcess, {"process": 2}, self.system.name, 2, 9)
        self.unchanged(self.system, NotOpen, {"number": 1}, self.system.name, 0, 1)

    def test_registrations_by_their_sets(self):
        self.system.new_set(0)
        self.system.add(0, 3, 2, 1, word="once")
        self.exactly(self.system.registrations(), [
            ((0, 0), 7, 1, (0, 1), "level", True),
            ((0, 0), 8, 2, (0, 2), "edge", True),
            ((0, 3), 1, 2, (0, 2), "once", True),
        ])
        self.system.close(0, 0)
        self.exactly(self.system.registrations(), [
            ((0, 3), 1, 2, (0, 2), "once", True),
            ((1, 0), 7, 1, (0, 1), "level", True),
            ((1, 0), 8, 2, (0, 2), "edge", True),
        ])
        self.system.wait(0, 3)
        self.system.close(0, 2)
        self.exactly(self.system.registrations()[0], ((0, 3), 1, 2, (1, 2), "once", False))

    def test_sets_by_their_names_behind_a_fork_of_a_later_process(self):
        self.system.end(0)
        self.system.fork(1)
        self.exactly((self.system.new_set(1), self.system.new_set(0)), (3, 3))
        self.system.add(1, 3, 1, 20)
        self.system.add(0, 3, 1, 10)
        self.exactly([(row[0], row[1]) for row in self.system.registrations()], [
            ((0, 0), 7), ((0, 0), 8), ((0, 3), 10), ((1, 3), 20),
        ])
        self.exactly(self.system.alive(), [0, 1])


class Equal(support.Case):
    def different(self, *calls, before=START):
        """The calls make a system unequal to what it was."""
        one = System.played(before)
        two = System.played([*before, *calls])
        self.exactly((one == two, one != two), (False, True))
        self.exactly((two == one, two != one), (False, True))

    def equal(self, one, two):
        self.exactly((one == two, one != two, two == one), (True, False, True))

    def test_the_same_calls(self):
        self.equal(System(), System())
        self.equal(System.played(START), System.played(tuple(START)))

    def test_another_way_to_the_same(self):
        self.equal(System.played(START), System.played([
            ("new_source", 0), ("fork", 0), ("end", 1), ("close", 0, 0), *START,
        ]))
        self.equal(System.played(START), System.played([*START, ("new_source", 0), ("close", 0, 3)]))
        self.equal(System.played(START), System.played([*START, ("arrive", 0, 1, 2), ("read", 0, 1, 2)]))

    def test_names_and_not_the_order_of_making_count(self):
        one = System.played([("new_source", 0), ("new_source", 0), ("arrive", 0, 0, 1)])
        two = System.played([
            ("new_source", 0), ("new_source", 0), ("arrive", 0, 1, 1), ("copy", 0, 1, 7),
            ("copy", 0, 0, 1), ("copy", 0, 7, 0), ("close", 0, 7),
        ])
        self.equal(one, two)

    def test_processes_in_another_order_of_forking(self):
        row = [("new_source", 0), ("fork", 0)]
        self.equal(System.played([*row, ("end", 0), ("fork", 1)]), System.played(row))

    def test_limits(self):
        self.assertFalse(System(processes=3) == System())
        self.assertFalse(System(numbers=7) == System())
        over = [("end", 0)]
        self.equal(System.played(over), System.played(over))
        self.assertFalse(System.played(over, numbers=7) == System.played(over))

    def test_processes(self):
        self.different(("fork", 0))
        self.different(("end", 1))
        one = System.played([("fork", 0), ("fork", 0), ("end", 1)])
        two = System.played([("fork", 0), ("fork", 0), ("end", 2)])
        self.assertFalse(one == two)

    def test_numbers_and_kinds(self):
        self.different(("new_source", 0))
        self.different(("close", 0, 5))
        self.different(("copy", 0, 0, 7))
        self.different(("close", 1, 0))
        self.assertFalse(System.played([("new_source", 0)]) == System.played([("new_set", 0)]))

    def test_pairs_that_mean_one_thing(self):
        one = System.played([("new_source", 0), ("copy", 0, 0, None), ("new_source", 0)])
        two = System.played([("new_source", 0), ("new_source", 0), ("copy", 0, 1, None)])
        three = System.played([("new_source", 0), ("new_source", 0), ("copy", 0, 0, None)])
        self.assertFalse(one == two)
        self.assertFalse(two == three)
        self.assertFalse(one == three)

    def test_units(self):
        self.different(("arrive", 0, 1, 1))
        self.different(("read", 0, 1, 1))
        self.different(("finish", 0, 1))

    def test_registrations(self):
        self.different(("add", 0, 0, 5, 9, "level"))
        self.different(("remove", 0, 0, 1))
        self.different(("change", 0, 0, 1, "once"))
        plain = [("new_set", 0), ("new_source", 0), ("copy", 0, 1, 2)]
        rows = [
            [("add", 0, 0, 1, 7, "level")],
            [("add", 0, 0, 2, 7, "level")],
            [("add", 0, 0, 1, 8, "level")],
            [("add", 0, 0, 1, 7, "edge")],
            [("add", 0, 0, 1, 7, "level"), ("add", 0, 0, 2, 8, "level")],
            [("add", 0, 0, 2, 8, "level"), ("add", 0, 0, 1, 7, "level")],
        ]
        for row in rows:
            for other in rows:
                one, two = System.played(plain + row), System.played(plain + other)
                self.exactly(one == two, row == other)

    def test_the_source_of_a_registration(self):
        plain = [("new_set", 0), ("new_source", 0), ("new_source", 0)]
        one = System.played([*plain, ("add", 0, 0, 1, 7, "level"), ("copy", 0, 1, 5), ("copy", 0, 2, 6)])
        two = System.played([*plain, ("copy", 0, 1, 5), ("copy", 0, 2, 6), ("copy", 0, 6, 1)])
        two.add(0, 0, 1, 7)
        two.copy(0, 5, 1)
        self.assertFalse(one == two)
        self.exactly(one.registrations()[0][3], (0, 1))
        self.exactly(two.registrations()[0][3], (0, 2))

    def test_armed(self):
        plain = [("new_set", 0), ("new_source", 0), ("add", 0, 0, 1, 7, "once")]
        one = System.played([*plain, ("arrive", 0, 1, 1), ("wait", 0, 0, 1), ("read", 0, 1, None)])
        two = System.played(plain)
        self.assertFalse(one == two)
        one.change(0, 0, 1, word="once")
        self.equal(one, two)

    def test_queues(self):
        self.different(("wait", 0, 0, 1))
        plain = [("new_set", 0), ("new_source", 0), ("new_source", 0)]
        plain += [("add", 0, 0, 1, 7, "level"), ("add", 0, 0, 2, 8, "level")]
        one = System.played([*plain, ("arrive", 0, 1, 1), ("arrive", 0, 2, 1)])
        two = System.played([*plain, ("arrive", 0, 2, 1), ("arrive", 0, 1, 1)])
        self.assertFalse(one == two)
        three = System.played([*plain, ("arrive", 0, 1, 1), ("read", 0, 1, None)])
        self.assertFalse(three == System.played(plain))
        three.wait(0, 0)
        self.equal(three, System.played(plain))

    def test_a_system_equals_nothing_else(self):
        for junk in support.JUNK + [0, 1, (4, 8), "System(4, 8, 1 alive)"]:
            self.exactly((System() == junk, System() != junk, junk == System()), (False, True, False))

    def test_comparing_changes_nothing(self):
        one, two = System.played(START), System.played(START[:-1])
        before = support.shown(one), support.shown(two)
        self.assertFalse(one == two)
        self.exactly((support.shown(one), support.shown(two)), before)


class Twins(support.Case):
    def test_a_twin_goes_on_by_itself(self):
        for call in support.PLAIN_CALLS + [("wait", 0, 0, 2), ("change", 0, 0, 1, "once"), ("read", 0, 2, 1)]:
            one = System.played(START, processes=3, numbers=7)
            two = one.twin()
            self.assertTrue(one == two)
            before = support.shown(one)
            two.answer(call)
            self.assertEqual(support.shown(one), before)
            changed = support.shown(two)
            one.answer(call)
            self.assertEqual(support.shown(one), changed)
            self.assertTrue(one == two)
            one.answer(("arrive", 0, 2, 9))
            one.answer(("end", 1))
            one.answer(("new_set", 0))
            self.assertEqual(support.shown(two), changed)

    def test_a_twin_of_a_twin_of_a_system_that_is_over(self):
        over = System.played([("end", 0)], processes=2)
        self.assertTrue(over.twin().twin() == over)
        self.exactly(over.twin().limits, (2, 8))

    def test_queues_of_a_twin(self):
        one = System.played([("new_set", 0), ("new_source", 0), ("add", 0, 0, 1, 7, "level")])
        two = one.twin()
        two.arrive(0, 1)
        self.exactly((one.row_of(0, 0), two.row_of(0, 0)), ([], [7]))
        three = two.twin()
        two.add(0, 0, two.copy(0, 1), 8)
        self.exactly((two.row_of(0, 0), three.row_of(0, 0)), ([7, 8], [7]))

    def test_registrations_of_a_twin(self):
        one = System.played(START)
        two = one.twin()
        two.wait(0, 0, 2)
        two.change(0, 0, 1, word="once")
        two.remove(0, 0, 2)
        self.exactly(one.row_of(0, 0), [8, 7])
        self.exactly([row[4] for row in one.registrations()], ["level", "edge"])


class Signs(support.Case):
    def test_len_bool_in_repr(self):
        system = System(processes=3, numbers=5)
        self.exactly((len(system), bool(system), repr(system)), (1, True, "System(3, 5, 1 alive)"))
        system.fork(0)
        self.exactly((len(system), 0 in system, 1 in system, 2 in system), (2, True, True, False))
        self.exactly(repr(system), "System(3, 5, 2 alive)")
        system.end(0)
        self.exactly((len(system), 0 in system, 1 in system), (1, False, True))
        self.exactly(system.alive(), [1])
        system.end(1)
        self.exactly((len(system), bool(system), repr(system)), (0, False, "System(3, 5, 0 alive)"))

    def test_limits_is_a_property(self):
        self.exactly(System(processes=6, numbers=3).limits, (6, 3))


if __name__ == "__main__":
    unittest.main()
