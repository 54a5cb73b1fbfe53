"""Points [4], [5] and [6]: limits, things, and the calls that change tables."""

import unittest

import support
from waitnumbers.errors import BadLimit, Full, NoNumber, NoProcess, NoRoom, NotOpen
from waitnumbers.system import System


class Limits(support.Case):
    def test_least_and_greatest(self):
        for processes in range(2, 7):
            for numbers in range(3, 9):
                system = System(processes=processes, numbers=numbers)
                self.exactly(system.limits, (processes, numbers))
                for at in range(numbers):
                    self.exactly(system.new_source(0), at)
                self.unchanged(system, Full, {"process": 0}, system.new_source, 0)
                for at in range(1, processes):
                    self.exactly(system.fork(0), at)
                self.unchanged(system, NoRoom, {}, system.fork, 0)
                self.exactly(system.alive(), list(range(processes)))

    def test_class_attributes(self):
        self.exactly((System.MOST_PROCESSES, System.MOST_NUMBERS), (6, 8))

    def test_no_limits(self):
        for junk in support.JUNK + [0, 1, 7, 8, 100]:
            self.refused(BadLimit, {"limit": junk}, lambda: System(processes=junk))
            self.refused(BadLimit, {"limit": junk}, lambda: System.played([], processes=junk))
        for junk in support.JUNK + [0, 1, 2, 9, 100]:
            self.refused(BadLimit, {"limit": junk}, lambda: System(numbers=junk))
            self.refused(BadLimit, {"limit": junk}, lambda: System.played([], numbers=junk))

    def test_the_limit_of_processes_first(self):
        self.refused(BadLimit, {"limit": 1}, lambda: System(processes=1, numbers=9))
        self.refused(BadLimit, {"limit": "x"}, lambda: System(numbers=2, processes="x"))
        self.refused(BadLimit, {"limit": 7}, lambda: System.played([1], processes=7, numbers=2))

    def test_a_new_system(self):
        system = System(processes=2, numbers=3)
        self.exactly(system.alive(), [0])
        self.exactly(system.numbers(0), [])
        self.exactly(system.registrations(), [])

    def test_over(self):
        system = System.played([("new_source", 0), ("fork", 0), ("end", 0), ("end", 1)])
        self.exactly(system.alive(), [])
        self.exactly((len(system), bool(system), 0 in system), (0, False, False))
        self.exactly(repr(system), "System(4, 8, 0 alive)")
        self.exactly(system.registrations(), [])
        for call in support.PLAIN_CALLS:
            self.exactly(system.answer(call), "NoProcess")
        self.unchanged(system, NoProcess, {"process": 0}, system.fork, 0)
        self.unchanged(system, NoProcess, {"process": 0}, system.new_set, 0)
        self.unchanged(system, NoProcess, {"process": 0}, system.name, 0, 0)
        self.unchanged(system, NoProcess, {"process": 0}, system.row_of, 0, 0)


class LowestFree(support.Case):
    def test_the_lowest_number_is_used_again(self):
        system = System(numbers=4)
        self.exactly([system.new_source(0), system.new_set(0), system.new_source(0)], [0, 1, 2])
        system.close(0, 1)
        system.close(0, 0)
        self.exactly(system.copy(0, 2), 0)
        self.exactly(system.new_set(0), 1)
        self.exactly(system.new_source(0), 3)
        self.exactly(system.numbers(0), [(0, "source"), (1, "set"), (2, "source"), (3, "source")])

    def test_full(self):
        system = System.played([("new_source", 0), ("new_set", 0), ("new_source", 0), ("fork", 0)], numbers=3)
        self.unchanged(system, Full, {"process": 1}, system.new_source, 1)
        self.unchanged(system, Full, {"process": 0}, system.new_set, 0)
        self.unchanged(system, Full, {"process": 1}, system.copy, 1, 2)
        self.unchanged(system, Full, {"process": 1}, system.copy, 1, 2, None)
        self.unchanged(system, NotOpen, {"number": 3}, system.copy, 1, 3)
        self.unchanged(system, NoProcess, {"process": 2}, system.copy, 2, 3, "x")
        self.exactly(system.copy(1, 2, 0), 0)

    def test_a_number_that_is_free_in_another_process_only(self):
        system = System.played([("new_source", 0), ("fork", 0), ("close", 1, 0)])
        self.exactly(system.new_set(0), 1)
        self.exactly(system.new_set(1), 0)

    def test_the_lowest_process_is_used_again(self):
        system = System(processes=3)
        self.exactly([system.fork(0), system.fork(1)], [1, 2])
        system.end(0)
        system.end(1)
        self.exactly(system.alive(), [2])
        self.exactly([system.fork(2), system.fork(2)], [0, 1])
        self.unchanged(system, NoRoom, {}, system.fork, 1)
        self.unchanged(system, NoProcess, {"process": 3}, system.fork, 3)

    def test_a_fork_has_a_table_of_its_own(self):
        system = System.played([("new_source", 0), ("new_set", 0), ("copy", 0, 0, None), ("fork", 0)])
        self.exactly(system.numbers(1), system.numbers(0))
        self.assertTrue(system.same(0, 0, 1, 2))
        self.assertTrue(system.same(0, 1, 1, 1))
        system.close(1, 0)
        system.copy(0, 1, 2)
        self.exactly(system.numbers(1), [(1, "set"), (2, "source")])
        self.exactly(system.numbers(0), [(0, "source"), (1, "set"), (2, "set")])


class Copy(support.Case):
    def setUp(self):
        self.system = System.played([("new_source", 0), ("new_set", 0), ("new_source", 0), ("arrive", 0, 0, 3)])

    def test_onto_a_free_number(self):
        self.exactly(self.system.copy(0, 0, 7), 7)
        self.exactly(self.system.units(0, 7), (3, False))
        self.exactly(self.system.copy(0, 0), 3)
        self.assertTrue(self.system.same(0, 3, 0, 7))
        self.exactly(self.system.read(0, 3), 3)
        self.exactly(self.system.units(0, 0), (0, False))

    def test_onto_itself(self):
        twin = self.system.twin()
        for number in (0, 1, 2):
            self.exactly(self.system.copy(0, number, number), number)
        self.assertTrue(self.system == twin)

    def test_onto_another_number_of_the_same_thing(self):
        self.system.add(0, 1, 0, 7)
        self.system.copy(0, 0, 5)
        twin = self.system.twin()
        self.exactly(self.system.copy(0, 0, 5), 5)
        self.exactly(self.system.copy(0, 5, 0), 0)
        self.assertTrue(self.system == twin)

    def test_onto_a_number_of_another_thing(self):
        self.system.fork(0)
        self.exactly(self.system.copy(0, 0, 2), 2)
        self.exactly(self.system.units(0, 2), (3, False))
        self.exactly(self.system.units(1, 2), (0, False))
        self.assertFalse(self.system.same(0, 2, 1, 2))

    def test_onto_the_last_number_of_a_source(self):
        self.system.add(0, 1, 0, 7)
        self.system.add(0, 1, 2, 8)
        self.exactly(self.system.copy(0, 2, 0), 0)
        self.exactly(self.system.registrations(), [((0, 1), 8, 2, (0, 0), "level", True)])
        self.exactly(self.system.row_of(0, 1), [])

    def test_onto_the_last_number_of_a_set(self):
        self.system.add(0, 1, 0, 7)
        self.exactly(self.system.copy(0, 0, 1), 1)
        self.exactly(self.system.registrations(), [])
        self.exactly(self.system.numbers(0), [(0, "source"), (1, "source"), (2, "source")])

    def test_onto_in_a_full_process(self):
        system = System.played([("new_source", 0), ("new_set", 0), ("new_source", 0)], numbers=3)
        self.exactly(system.copy(0, 0, 0), 0)
        self.exactly(system.copy(0, 0, 2), 2)

    def test_no_number(self):
        for junk in [junk for junk in support.JUNK if junk is not None] + [8, -1, 100]:
            self.unchanged(self.system, NoNumber, {"number": junk}, self.system.copy, 0, 0, junk)
        small = System.played([("new_source", 0)], numbers=3)
        self.unchanged(small, NoNumber, {"number": 3}, small.copy, 0, 0, 3)
        self.exactly(small.copy(0, 0, 2), 2)

    def test_order_of_errors(self):
        self.unchanged(self.system, NoProcess, {"process": 1}, self.system.copy, 1, 9, 9)
        self.unchanged(self.system, NotOpen, {"number": 9}, self.system.copy, 0, 9, 9)
        self.unchanged(self.system, NotOpen, {"number": 3}, self.system.copy, 0, 3, 9)
        self.unchanged(self.system, NoNumber, {"number": 9}, self.system.copy, 0, 0, 9)


class Ends(support.Case):
    """What ends with the last number of a source and of a set."""

    def setUp(self):
        self.system = System.played([
            ("new_set", 0), ("new_set", 0), ("new_source", 0), ("new_source", 0),
            ("add", 0, 0, 2, 7, "level"), ("add", 0, 0, 3, 8, "level"), ("add", 0, 1, 2, 9, "level"),
            ("arrive", 0, 2, 1), ("arrive", 0, 3, 1),
        ])

    def labels(self):
        return [row[1] for row in self.system.registrations()]

    def test_close_of_a_source(self):
        self.system.copy(0, 2, 5)
        self.system.close(0, 2)
        self.exactly(self.labels(), [7, 8, 9])
        self.exactly(self.system.row_of(0, 0), [7, 8])
        self.system.close(0, 5)
        self.exactly(self.labels(), [8])
        self.exactly((self.system.row_of(0, 0), self.system.row_of(0, 1)), ([8], []))
        self.exactly(self.system.new_source(0), 2)
        self.exactly(self.system.units(0, 2), (0, False))

    def test_close_of_a_set(self):
        self.system.copy(0, 0, 5)
        self.system.close(0, 0)
        self.exactly(self.labels(), [9, 7, 8])
        self.system.close(0, 5)
        self.exactly(self.labels(), [9])
        self.exactly(self.system.new_set(0), 0)
        self.exactly(self.system.row_of(0, 0), [])
        self.exactly(self.labels(), [9])

    def test_a_number_in_another_process_holds_a_thing(self):
        self.system.fork(0)
        self.system.close(0, 2)
        self.system.close(0, 0)
        self.exactly(self.labels(), [9, 7, 8])
        self.system.close(1, 2)
        self.exactly(self.labels(), [8])
        self.system.close(1, 0)
        self.exactly(self.labels(), [])

    def test_copy_onto(self):
        self.system.copy(0, 3, 2)
        self.exactly(self.labels(), [8])
        self.system.copy(0, 1, 0)
        self.exactly(self.labels(), [])
        self.exactly(self.system.numbers(0), [(0, "set"), (1, "set"), (2, "source"), (3, "source")])

    def test_end_of_a_process(self):
        self.system.fork(0)
        self.system.close(0, 2)
        self.system.close(0, 0)
        self.system.end(1)
        self.exactly(self.system.alive(), [0])
        self.exactly(self.labels(), [])
        self.exactly(self.system.numbers(0), [(1, "set"), (3, "source")])
        self.exactly(self.system.units(0, 3), (1, False))
        self.unchanged(self.system, NoProcess, {"process": 1}, self.system.end, 1)

    def test_end_of_a_process_that_shares_all(self):
        self.system.fork(0)
        self.system.end(0)
        self.exactly(self.system.alive(), [1])
        self.exactly(self.labels(), [7, 8, 9])
        self.exactly(self.system.row_of(1, 0), [7, 8])
        self.exactly(self.system.fork(1), 0)

    def test_a_process_without_numbers_stays_alive(self):
        for number in range(4):
            self.system.close(0, number)
        self.exactly(self.system.alive(), [0])
        self.exactly(self.system.numbers(0), [])
        self.unchanged(self.system, NotOpen, {"number": 0}, self.system.close, 0, 0)


if __name__ == "__main__":
    unittest.main()
